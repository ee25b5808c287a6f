/- Layer 10: the contract of the laws' Own. -/
import Derived.Test.YtekpefcggikcbaaGreatDoorMRegE
import Derived.Test.YtekpefcggikcbaaGreatDoorMSyCt
import Derived.Deep.Cut
import Derived.Test.YtekpefcggikcbaaGreatDoorSynPr
import Derived.Test.YtekpefcggikcbaaGreatDoorMVlM
namespace Go.Proofs.YtekpefcggikcbaaGreatDoor
/- Layer 10: the contract of the laws' Own. -/
open Go.RowKit

theorem Blo.set {w : World} {N B e z n x i : Nat} {v u : Value} {l : List D} (h : Blo N w B e z v n l) (hN : N ≤ x) (hx : x < B) : Blo N (w.setCell ⟨x, i, none⟩ u) B e z v n l := by
  have hoth : ∀ j, j < w.heap.size → j ≠ x → (w.setCell ⟨x, i, none⟩ u).heap[j]? = w.heap[j]? := fun j _ hj => Below.heap_setCell _ _ _ _ (by show j ≠ x; exact hj)
  obtain ⟨us, h1, h2⟩ := h
  exact ⟨us, own_keepB h1 fun a ha hBa => hoth a ha (by omega), h2.keep (by simp [World.setCell]) fun j hj hS => hoth j hj fun e => by rcases hS.1 with h | h <;> omega⟩
theorem Only.self {g : Nat} {a w : World} (h : Only g a w) (i : Nat) (v : Value) : Only g a (w.setCell ⟨g, i, none⟩ v) :=
  ⟨h.os, h.tape, h.output, by simpa [World.setCell] using h.size, fun k hk hn => (Below.heap_setCell _ _ _ _ (by show k ≠ g; exact hn)).trans (h.block k hk hn)⟩
theorem info_Pr2 : (Tryz.prog.info? 59).map (fun i => (i.zero, i.size, i.bytes)) = some (some (.agg #[.string ⟨#[]⟩, .slice none 0 0, .slice none 0 0, .slice none 0 0]), 4, 88) := by kernel_rfl
theorem info_Ms2 : (Tryz.prog.info? 74).map (fun i => (i.zero, i.size, i.bytes)) = some (some (.agg #[.string ⟨#[]⟩, .slice none 0 0, .slice none 0 0]), 3, 64) := by kernel_rfl
def vA9 (a : Am) : Array Value := #[.int .i64 a.l.k, .string (ofL a.l.m), .string (ofL a.l.f), .int .i64 a.l.n, .string (ofL a.op), .int .i64 a.r.k, .string (ofL a.r.m), .string (ofL a.r.f), .int .i64 a.r.n]
theorem liesA (w : World) (S : Nat → Prop) (a : Am) : LiesL w S (vA9 a).toList (dA a) :=
  LiesL.cons (.c _ rfl) (LiesL.cons (.c _ rfl) (LiesL.cons (.c _ rfl) (LiesL.cons (.c _ rfl) (LiesL.cons (.c _ rfl) (LiesL.cons (.c _ rfl) (LiesL.cons (.c _ rfl) (LiesL.cons (.c _ rfl) (LiesL.cons (.c _ rfl) (LiesL.nil _ _)))))))))
def OnRel (N : Nat) (w : World) (l : List Pr) (gk : Nat) (v3 v14 : Value) (wr : World) : Prop :=
  ∃ (k : Nat) (A : Option Addr) (c : Nat), k ≤ l.length ∧ l.length ≤ gk + k ∧ v14 = .int .i64 (k : Int) ∧ v3 = .slice A k c ∧ Hid (Blo N wr w.heap.size 59 4 (.slice A k c) k ((l.take k).flatMap dP)) ∧ Hid (Below w.heap.size w wr)
def OmRel (N b : Nat) (W2 : World) (q0 q1 q3 : Value) (ms : List Ms) (gk : Nat) (v29 : Value) (wr : World) : Prop :=
  ∃ (j : Nat) (A : Option Addr) (c : Nat), j ≤ ms.length ∧ ms.length ≤ gk + j ∧ v29 = .int .i64 (j : Int) ∧ Hid (Bx wr b 59 #[q0, q1, .slice A j c, q3]) ∧ Hid (Blo N wr W2.heap.size 74 3 (.slice A j c) j ((ms.take j).flatMap dM)) ∧ Hid (Only b W2 wr)
def OaRel (N x : Nat) (W3 : World) (a0 a1 : Value) (wh : List Am) (gk : Nat) (v41 : Value) (wr : World) : Prop :=
  ∃ (i : Nat) (A : Option Addr) (c : Nat), i ≤ wh.length ∧ wh.length ≤ gk + i ∧ v41 = .int .i64 (i : Int) ∧ Hid (Bx wr x 74 #[a0, a1, .slice A i c]) ∧ Hid (Blo N wr (x + 1) 100 9 (.slice A i c) i ((wh.take i).flatMap dA)) ∧ Hid (Below x W3 wr)
set_option maxRecDepth 20000 in
set_option maxHeartbeats 16000000 in
theorem own_any (l : List Pr) (w : World) (v : Value) (N : Nat) (hG : ∀ p ∈ l, GR p) (hlen : l.length ≤ 1000000000) (hN : N ≤ w.heap.size) (hL : Lir w (fun k => k < N) v (.s 4 (l.flatMap dP))) : Calls Tryz.prog 21 #[v] w (OwPost w N (.s 4 (l.flatMap dP))) := by
  obtain ⟨A, n1, c, rfl, hn1⟩ := hL.slc
  rw [flat_len pr_len] at hn1
  obtain rfl : n1 = l.length := by omega
  have HG := Lib.hid hG
  have HL := Lib.hid hL
  have HNN := Lib.hid hN
  clear hL hn1 hG hN
  go_enter Tryz.func21, Tryz.ntmps21
  go_wp2_with fail
  go_loopg [3, 5, 6, 8, 9, 11, 14] l.length (fun gk v3 _ _ _ _ _ v14 wr => OnRel N w l gk v3 v14 wr)
  case atStart => exact ⟨0, none, 0, by omega, by omega, rfl, rfl, Blo.nil _ _ _ _ _, Below.refl _ _⟩
  case round =>
    obtain ⟨k, A3, c3, hk, hkg, rfl, rfl, HO, HB⟩ := hrel
    have hsz := HB.out.size
    have HLr := Lib.hid (HL.out.belowT HB.out)
    by_cases hlt : k < l.length
    · obtain ⟨p, hp⟩ : ∃ x, l[k]? = some x := ⟨_, List.getElem?_eq_getElem hlt⟩
      obtain ⟨bb, o, n2, c2, he, -, hnc, -, -, hcell⟩ := HLr.out.cell (by
        intro e0
        have := congrArg List.length e0
        rw [flat_len pr_len, List.length_nil] at this; omega)
      simp only [Value.slice.injEq] at he
      obtain ⟨rfl, rfl, rfl⟩ := he
      obtain ⟨A1, c1, A2, c2, A4, c4, u0, u1, u2, u3, LR, LM, LB⟩ := rpr_cells hcell hp
      have HTAKE := Lib.hid (show (l.take (k + 1)).flatMap dP = (l.take k).flatMap dP ++ dP p by
        rw [List.take_succ_eq_append_getElem hlt, List.flatMap_append, List.flatMap_singleton, (List.getElem?_eq_some_iff.1 hp).2])
      have HGG := Lib.hid (HG.out p (List.mem_of_getElem? hp))
      have HLR := Lib.hid LR
      have HLM := Lib.hid LM
      have HLB := Lib.hid LB
      clear hcell hp LR LM LB
      go_wp2_with fail
      obtain ⟨W1, hW1⟩ : ∃ W, wr.alloc (.cells #[.string (ofL p.nm), .slice A1 p.rs.length c1, .slice A2 p.ms.length c2, .slice A4 p.bd.length c4] 54) = W := ⟨_, rfl⟩
      have HW1 := Lib.hid hW1
      have HB1 := Lib.hid (show Below wr.heap.size wr W1 by rw [← hW1]; exact (Below.refl _ _).alloc (Nat.le_refl _) _)
      have XP := Lib.hid (show Bx W1 wr.heap.size 54 #[.string (ofL p.nm), .slice A1 p.rs.length c1, .slice A2 p.ms.length c2, .slice A4 p.bd.length c4] by rw [← hW1]; exact Bx.new _ _ _)
      have hs1 : W1.heap.size = wr.heap.size + 1 := by rw [← hW1]; exact size_alloc _ _
      have HS1 := Lib.hid hs1
      rw [HW1.out]
      clear hW1 u0 u1 u2 u3 hs1
      generalize gk = gO at *
      generalize wr = WR at *
      have HST := Lib.hid (fun vs => OqI.start (wi := W1) (N := N) (sb := WR.heap.size) (T := 59) (nm := .string (ofL p.nm)) (rs := .slice A1 p.rs.length c1) (bv := .slice A4 p.bd.length c4) (zs := #[.string ⟨#[]⟩, .slice none 0 0, .slice none 0 0, .slice none 0 0]) (d := dB p.bd) (vs := vs))
      refine region_inv (n := 71) (OqI W1 N WR.heap.size 59 (.string (ofL p.nm)) (.slice A1 p.rs.length c1) (.slice A4 p.bd.length c4) #[.string ⟨#[]⟩, .slice none 0 0, .slice none 0 0, .slice none 0 0] (dB p.bd)) (by kernel_rfl) (by kernel_rfl) rfl ?_ (allOps_spec ?_) ?_
      · intro vs
        exact HST.out vs
      · clear HST
        refine ⟨?_, ?_, ?_, ?_, ?_, ?_, ?_, ?_, ?_, ?_, trivial⟩
        · intro L vs a w2 hB hL hd hI
          have b5 : a.tmps[5]?.getD undef = .pointer (some ⟨WR.heap.size, 0, none⟩) := hB.at 5 (by kernel_rfl)
          exact stepI_run (v := .pointer (some ⟨WR.heap.size, 0, none⟩)) rfl (by simp [execOp, go_sem, Act.eval, b5]) hI.t0
        · intro L vs a w2 hB hL hd hI
          have b0 : a.tmps[18]?.getD undef = .pointer (some ⟨WR.heap.size, 0, none⟩) := (hB.val 0 (hd ⟨0, .data⟩ (by simp) rfl) 18 rfl).trans (hI.p0 (hd ⟨0, .data⟩ (by simp) rfl))
          have c6 : w2.cell? ⟨WR.heap.size, 0, none⟩ = some (.string (ofL p.nm)) := (XP.out.below hI.bel).cell 0
          exact stepI_run (v := .string (ofL p.nm)) rfl (by simp [execOp, go_sem, Act.eval, b0, c6]) hI.t1
        · intro L vs a w2 hB hL hd hI
          have b5 : a.tmps[5]?.getD undef = .pointer (some ⟨WR.heap.size, 0, none⟩) := hB.at 5 (by kernel_rfl)
          exact stepI_run (v := .pointer (some ⟨WR.heap.size, 1, none⟩)) rfl (by simp [execOp, go_sem, Act.eval, b5]) hI.t2
        · intro L vs a w2 hB hL hd hI
          have b0 : a.tmps[20]?.getD undef = .pointer (some ⟨WR.heap.size, 1, none⟩) := (hB.val 2 (hd ⟨2, .data⟩ (by simp) rfl) 20 rfl).trans (hI.p2 (hd ⟨2, .data⟩ (by simp) rfl))
          have c6 : w2.cell? ⟨WR.heap.size, 1, none⟩ = some (.slice A1 p.rs.length c1) := (XP.out.below hI.bel).cell 1
          exact stepI_run (v := .slice A1 p.rs.length c1) rfl (by simp [execOp, go_sem, Act.eval, b0, c6]) hI.t3
        · intro L vs a w2 hB hL hd hI
          have b5 : a.tmps[5]?.getD undef = .pointer (some ⟨WR.heap.size, 0, none⟩) := hB.at 5 (by kernel_rfl)
          exact stepI_run (v := .pointer (some ⟨WR.heap.size, 3, none⟩)) rfl (by simp [execOp, go_sem, Act.eval, b5]) hI.t4
        · intro L vs a w2 hB hL hd hI
          have b0 : a.tmps[22]?.getD undef = .pointer (some ⟨WR.heap.size, 3, none⟩) := (hB.val 4 (hd ⟨4, .data⟩ (by simp) rfl) 22 rfl).trans (hI.p4 (hd ⟨4, .data⟩ (by simp) rfl))
          have c6 : w2.cell? ⟨WR.heap.size, 3, none⟩ = some (.slice A4 p.bd.length c4) := (XP.out.below hI.bel).cell 3
          exact stepI_run (v := .slice A4 p.bd.length c4) rfl (by simp [execOp, go_sem, Act.eval, b0, c6]) hI.t5
        · intro L vs a w2 hB hL hd hI
          have b2 : a.tmps[23]?.getD undef = .slice A4 p.bd.length c4 := (hB.val 5 (hd ⟨5, .data⟩ (by simp) rfl) 23 rfl).trans (hI.p5 (hd ⟨5, .data⟩ (by simp) rfl))
          have h7 : L 7 = false := hB.wait 6 7 hL (by kernel_rfl)
          have h9 : L 9 = false := hB.wait 7 9 h7 (by kernel_rfl)
          refine stepI_call (f := 51) (args := #[.slice A4 p.bd.length c4]) rfl (by simp [go_sem, b2]) ?_
          have hz2 := hI.bel.size
          have hz3 := HS1.out
          have hN := HNN.out
          refine (ownItems_any _ p.bd w2 _ N (Nat.lt_succ_self _) HGG.out.bn (by omega) ((HLB.out.belowT HB1.out).keep hI.bel.size fun q _ hq => hI.bel.block q (by have hq : q < N := hq; omega))).mono ?_
          rintro e w3 ⟨v, rfl, LV, hb3⟩
          obtain ⟨A7, n7, c7, rfl, -⟩ := Lies.slc (show Lies w3 _ v (.s 7 (dIs p.bd)) from LV)
          exact ⟨_, rfl, hI.t6 hL h9 (by omega) LV hb3⟩
        · intro L vs a w2 hB hL hd hI
          have h1 : L 1 = true := hd ⟨1, .data⟩ (by simp) rfl
          have h3 : L 3 = true := hd ⟨3, .data⟩ (by simp) rfl
          have h6 : L 6 = true := hd ⟨6, .data⟩ (by simp) rfl
          have b19 : a.tmps[19]?.getD undef = .string (ofL p.nm) := (hB.val 1 h1 19 rfl).trans (hI.p1 h1)
          have b21 : a.tmps[21]?.getD undef = .slice A1 p.rs.length c1 := (hB.val 3 h3 21 rfl).trans (hI.p3 h3)
          obtain ⟨A7, m7, c7, h6v, -⟩ := hI.val h6
          have b24 : a.tmps[24]?.getD undef = .slice A7 m7 c7 := (hB.val 6 h6 24 rfl).trans h6v
          have hfin := hI.t7 h6
          rw [h6v] at hfin
          exact stepI_run (v := .agg #[.string (ofL p.nm), .slice A1 p.rs.length c1, .slice none 0 0, .slice A7 m7 c7]) rfl (by simp [execOp, go_sem, Act.eval, b19, b21, b24]) hfin
        · intro L vs a w2 hB hL hd hI
          have h9 : L 9 = false := hB.wait 8 9 hL (by kernel_rfl)
          exact stepI_run (v := .pointer (some ⟨w2.heap.size, 0, none⟩)) (w' := w2.alloc (.cells #[.string ⟨#[]⟩, .slice none 0 0, .slice none 0 0, .slice none 0 0] 59)) rfl (exec_alloc 59 rfl info_Pr2) (hI.t8 h9)
        · intro L vs a w2 hB hL hd hI
          have h7 : L 7 = true := hd ⟨7, .data⟩ (by simp) rfl
          have h8 : L 8 = true := hd ⟨8, .data⟩ (by simp) rfl
          obtain ⟨h6, h7v⟩ := hI.p7 h7
          obtain ⟨A7, m7, c7, h6v, -⟩ := hI.val h6
          obtain ⟨b, h8v, hwb, hx⟩ := hI.box h8
          rw [hL, if_neg Bool.false_ne_true] at hx
          have b6 : a.tmps[6]?.getD undef = .pointer (some ⟨b, 0, none⟩) := (hB.val 8 h8 6 rfl).trans h8v
          have b25 : a.tmps[25]?.getD undef = .agg #[.string (ofL p.nm), .slice A1 p.rs.length c1, .slice none 0 0, vs 6] := (hB.val 7 h7 25 rfl).trans h7v
          exact stepI_store_row rfl 59 6 25 rfl b _ b6 b25 _ hx (by kernel_rfl) rfl (by rw [h6v]; simp [Value.oneCell']) (hI.t9 h6 h8v h8 hwb hx)
      · intro L vs W2 hall hI
        obtain ⟨BF, b, A7, n7, c7, h8, hwb, XF, LF⟩ := hI.fin (fun i hi => hall i hi)
        clear hI hall HST
        simp only [putAll, Act.put, List.setIfInBounds_toArray, List.set_cons_zero, List.set_cons_succ, Nat.zero_add, Nat.reduceAdd, h8]
        clear h8
        have XF2 := Lib.hid XF
        have LF2 := Lib.hid LF
        have BF2 := Lib.hid BF
        have hb1 : WR.heap.size + 1 ≤ b := by rw [← HS1.out]; exact hwb
        have hb2 : b < W2.heap.size := XF.lt
        have HB2 := Lib.hid (show Below WR.heap.size WR W2 from HB1.out.trans (BF.mono (by have := HS1.out; omega)))
        have XP2 := Lib.hid (XP.out.below BF)
        obtain ⟨y0, y1, y2, y3⟩ := XP2.out.k4
        have HN2 := Lib.hid (show N ≤ b by have := HNN.out; omega)
        clear XF LF BF hwb
        go_wp2_with fail
        clear y0 y1 y2 y3
        go_loopg [8, 9, 11, 29] p.ms.length (fun gk _ _ _ v29 wr2 => OmRel N b W2 (.string (ofL p.nm)) (.slice A1 p.rs.length c1) (.slice A7 n7 c7) p.ms gk v29 wr2)
        case atStart => exact ⟨0, none, 0, by omega, by omega, rfl, XF2, Blo.nil _ _ _ _ _, Only.refl _ _⟩
        case round =>
          obtain ⟨j, A5, c5, hj, hjg, rfl, HX, HR, HO2⟩ := hrel
          have hz2 := HO2.out.size
          have HB3 := Lib.hid (show Below WR.heap.size WR wr from HB2.out.trans (HO2.out.toBelow (by omega) HB2.out.size))
          by_cases hjl : j < p.ms.length
          · obtain ⟨m, hm⟩ : ∃ x, p.ms[j]? = some x := ⟨_, List.getElem?_eq_getElem hjl⟩
            obtain ⟨bb2, o2, n3, c6, he, -, hnc2, -, -, hcell⟩ := (HLM.out.belowT HB3.out).cell (by
              intro e0
              have := congrArg List.length e0
              rw [flat_len ms_len, List.length_nil] at this; omega)
            simp only [Value.slice.injEq] at he
            obtain ⟨rfl, rfl, rfl⟩ := he
            obtain ⟨A8, c8, A9, c9, u0, u1, u2, LF, LW⟩ := rms_cells hcell hm
            have HTK := Lib.hid (show (p.ms.take (j + 1)).flatMap dM = (p.ms.take j).flatMap dM ++ dM m by
              rw [List.take_succ_eq_append_getElem hjl, List.flatMap_append, List.flatMap_singleton, (List.getElem?_eq_some_iff.1 hm).2])
            have hwl := (HGG.out.fl m (List.mem_of_getElem? hm)).2
            have HLF := Lib.hid LF
            have HLW := Lib.hid LW
            clear hcell hm LF LW
            go_wp2_with fail
            obtain ⟨W3, hW3⟩ : ∃ W, (wr.alloc (.cells #[.string (ofL m.nm), .slice A8 m.fs.length c8, .slice A9 m.wh.length c9] 96)).alloc (.cells #[.string (ofL m.nm), .slice A8 m.fs.length c8, .slice none 0 0] 74) = W := ⟨_, rfl⟩
            have HW3 := Lib.hid hW3
            have HB4 := Lib.hid (show Below wr.heap.size wr W3 by rw [← hW3]; exact ((Below.refl _ _).alloc (Nat.le_refl _) _).alloc (by simp) _)
            have X3 := Lib.hid (show Bx W3 (wr.heap.size + 1) 74 #[.string (ofL m.nm), .slice A8 m.fs.length c8, .slice none 0 0] by rw [← hW3]; exact Bx.new2 (size_alloc _ _))
            rw [HW3.out]
            clear hW3 u0 u1 u2
            generalize gk = gM at *
            generalize wr = WM at *
            go_loopg [11, 41] m.wh.length (fun gk _ v41 wr3 => OaRel N (WM.heap.size + 1) W3 (.string (ofL m.nm)) (.slice A8 m.fs.length c8) m.wh gk v41 wr3)
            case atStart => exact ⟨0, none, 0, by omega, by omega, rfl, X3, Blo.nil _ _ _ _ _, Below.refl _ _⟩
            case round =>
              obtain ⟨i, AA, ca, hi, hig, rfl, HX3, HR3, HB5⟩ := hrel
              have HB6 := Lib.hid (show Below WM.heap.size WM wr from HB4.out.trans (HB5.out.mono (Nat.le_succ _)))
              have hsz3 := HX3.out.lt
              by_cases hil : i < m.wh.length
              · obtain ⟨a, ha⟩ : ∃ x, m.wh[i]? = some x := ⟨_, List.getElem?_eq_getElem hil⟩
                obtain ⟨bb3, o3, n4, c10, he, hn4, -, -, hcell⟩ := sl_cell (HLW.out.belowT HB6.out) (by
                  intro e0
                  have := congrArg List.length e0
                  rw [flat_len dA_len, List.length_nil] at this; omega)
                simp only [Value.slice.injEq] at he
                obtain ⟨rfl, rfl, rfl⟩ := he
                have hac := am_cells hcell ha
                obtain ⟨t0, t1, t2, t3, t4, t5, t6, t7, t8⟩ := hac
                have HTA := Lib.hid (show (m.wh.take (i + 1)).flatMap dA = (m.wh.take i).flatMap dA ++ dA a by
                  rw [List.take_succ_eq_append_getElem hil, List.flatMap_append, List.flatMap_singleton, (List.getElem?_eq_some_iff.1 ha).2])
                clear hcell ha hn4
                go_upto_region 13 with (fail)
                obtain ⟨W4, hW4⟩ : ∃ W, wr.alloc (.cells (vA9 a) 103) = W := ⟨_, rfl⟩
                have HW4 := Lib.hid (show wr.alloc (.cells #[.int .i64 a.l.k, .string (ofL a.l.m), .string (ofL a.l.f), .int .i64 a.l.n, .string (ofL a.op), .int .i64 a.r.k, .string (ofL a.r.m), .string (ofL a.r.f), .int .i64 a.r.n] 103) = W4 from hW4)
                have hba : Below wr.heap.size wr W4 := by rw [← hW4]; exact (Below.refl _ _).alloc (Nat.le_refl _) _
                have XA := Lib.hid (show Bx W4 wr.heap.size 103 #[.int .i64 a.l.k, .string (ofL a.l.m), .string (ofL a.l.f), .int .i64 a.l.n, .string (ofL a.op), .int .i64 a.r.k, .string (ofL a.r.m), .string (ofL a.r.f), .int .i64 a.r.n] by rw [← hW4]; exact Bx.new _ _ _)
                have X4 := Lib.hid (HX3.out.below hba)
                have HR4 := Lib.hid (HR3.out.below hba)
                have HB7 := Lib.hid (HB5.out.trans (hba.mono (by omega)))
                have hsz4 : WM.heap.size + 1 + 1 ≤ W4.heap.size := Nat.le_trans hsz3 hba.size
                rw [HW4.out]
                obtain ⟨z0, z1, z2, z3, z4, z5, z6, z7, z8⟩ := XA.out.k9
                obtain ⟨x0, x1, x2⟩ := X4.out.k3
                obtain ⟨f0, f1, f2⟩ := X4.out.f3
                have hby : (i + 1) * 112 ≤ 140737488355328 := by omega
                have HNX := Lib.hid (show N ≤ WM.heap.size + 1 by have := HN2.out; omega)
                clear hW4 hba t0 t1 t2 t3 t4 t5 t6 t7 t8
                go_wp2_with (at_builtin; refine appO rfl (.tmp 46) (.tmp 54) 72 rfl 100 _ 9 112 info_Atom rfl (by decide) Tryz.underlying72 N (WM.heap.size + 1 + 1) (.slice AA i ca) i _ (by rfl) HR4.out (vA9 a) (dA a) rfl (by rfl) (liesA _ _ a) hby hsz4 (by decide) ?_
                             intro v5 w5 hB5 hg5
                             obtain ⟨A6, c6, rfl⟩ := hB5.shape
                             have HB8 := Lib.hid hB5
                             have HG8 := Lib.hid (HR4.out.grown hg5 hsz4)
                             have X5 := Lib.hid (show Bx w5 (WM.heap.size + 1) _ _ from (HG8.out.block _ (Nat.lt_succ_self _)).trans X4.out)
                             have k2 : w5.cell? ⟨WM.heap.size + 1, 2, none⟩ = some (.slice AA i ca) := X5.out.cell 2
                             have l2 := X5.out.free 2
                             clear hB5 hg5)
                go_roundg (gk - 1)
                case rel => exact ⟨i + 1, A6, c6, by omega, by omega, by simp, X5.out.set 2 _, by unfold Hid; rw [HTA.out]; exact HB8.out.set HNX.out (Nat.lt_succ_self _), (HB7.out.trans (HG8.out.mono (Nat.le_succ _))).setCell (Nat.le_refl _) _⟩
                case measure => omega
              · have hii : i = m.wh.length := by omega
                subst hii
                have HTW := Lib.hid (show (m.wh.take m.wh.length).flatMap dA = m.wh.flatMap dA by rw [List.take_length])
                have hxb : b < WM.heap.size := by omega
                have XQ := Lib.hid (show Bx wr b _ _ from HX.out.below HB6.out)
                have HR5 := Lib.hid (HR.out.below HB6.out)
                obtain ⟨x0, x1, x2⟩ := HX3.out.k3
                obtain ⟨q0, q1, q2, q3⟩ := XQ.out.k4
                have hownj : ∀ q, (Value.slice A5 j c5).ownBlock = some q → W2.heap.size ≤ q ∧ q < WM.heap.size := fun q hq => ⟨HR.out.ge hq, HR.out.lt hq⟩
                have HLL := Lib.hid (show LiesL wr (fun q => Nw N W2.heap.size q ∧ (Value.slice A5 j c5).ownBlock ≠ some q) [.string (ofL m.nm), .slice A8 m.fs.length c8, .slice AA m.wh.length ca] (dM m) by
                  have hN := HN2.out
                  have l2 : Lies wr (fun q => Nw N W2.heap.size q ∧ (Value.slice A5 j c5).ownBlock ≠ some q) (.slice A8 m.fs.length c8) (.s 4 (m.fs.flatMap dF)) := (HLF.out.belowT HB6.out).mono fun q _ hq => ⟨.inl hq, fun e => by have h1 := hownj q e; have h2 : q < N := hq; omega⟩
                  have l6 : Lies wr (fun q => Nw N W2.heap.size q ∧ (Value.slice A5 j c5).ownBlock ≠ some q) (.slice AA m.wh.length ca) (.s 9 (m.wh.flatMap dA)) := by
                    have := HR3.out.lies
                    rw [HTW.out] at this
                    exact this.mono fun q _ hq => ⟨hq.elim .inl fun h => .inr (by omega), fun e => by have h1 := hownj q e; rcases hq with h | h <;> omega⟩
                  exact LiesL.cons (.c _ rfl) (LiesL.cons l2 (LiesL.cons l6 (LiesL.nil _ _))))
                have hpm := HGG.out.ml
                have hby : (j + 1) * 64 ≤ 140737488355328 := by omega
                have hszr : W2.heap.size ≤ wr.heap.size := by omega
                clear hownj
                go_wp2_with (at_builtin; refine appO rfl (.tmp 59) (.tmp 61) 56 rfl 74 _ 3 64 info_Ms2 rfl (by decide) Tryz.underlying56 N W2.heap.size (.slice A5 j c5) j _ (by rfl) HR5.out #[.string (ofL m.nm), .slice A8 m.fs.length c8, .slice AA m.wh.length ca] (dM m) rfl (by rfl) HLL.out hby hszr (by decide) ?_
                             intro v5 w5 hB5 hg5
                             obtain ⟨A6, c6, rfl⟩ := hB5.shape
                             have HB8 := Lib.hid hB5
                             have HG8 := Lib.hid (HR5.out.grown hg5 hszr)
                             have X5 := Lib.hid (show Bx w5 b _ _ from (HG8.out.block _ hb2).trans XQ.out)
                             have k2 : w5.cell? ⟨b, 2, none⟩ = some (.slice A5 j c5) := X5.out.cell 2
                             have l2 := X5.out.free 2
                             clear hB5 hg5)
                go_roundg (gM - 1)
                case rel => exact ⟨j + 1, A6, c6, by omega, by omega, by simp, X5.out.set 2 _, by unfold Hid; rw [HTK.out]; exact HB8.out.set HN2.out hb2, (HO2.out.to ((HB6.out.mono hz2).trans HG8.out)).self _ _⟩
                case measure => omega
          · have hjj : j = p.ms.length := by omega
            subst hjj
            have HTM := Lib.hid (show (p.ms.take p.ms.length).flatMap dM = p.ms.flatMap dM by rw [List.take_length])
            obtain ⟨q0, q1, q2, q3⟩ := HX.out.k4
            have HO3 := Lib.hid (HO.out.below HB3.out)
            have hown : ∀ q, (Value.slice A3 k c3).ownBlock = some q → w.heap.size ≤ q ∧ q < WR.heap.size := fun q hq => ⟨HO.out.ge hq, HO.out.lt hq⟩
            have HLL := Lib.hid (show LiesL wr (fun q => Nw N w.heap.size q ∧ (Value.slice A3 k c3).ownBlock ≠ some q) [.string (ofL p.nm), .slice A1 p.rs.length c1, .slice A5 p.ms.length c5, .slice A7 n7 c7] (dP p) by
              have hN := HNN.out
              have hS := HS1.out
              have l1 : Lies wr (fun q => Nw N w.heap.size q ∧ (Value.slice A3 k c3).ownBlock ≠ some q) (.slice A1 p.rs.length c1) (dL p.rs) := (HLR.out.belowT HB3.out).mono fun q _ hq => ⟨.inl hq, fun e => by have h1 := hown q e; have h2 : q < N := hq; omega⟩
              have l2 : Lies wr (fun q => Nw N w.heap.size q ∧ (Value.slice A3 k c3).ownBlock ≠ some q) (.slice A5 p.ms.length c5) (.s 3 (p.ms.flatMap dM)) := by
                have := HR.out.lies
                rw [HTM.out] at this
                exact this.mono fun q _ hq => ⟨hq.elim .inl fun h => .inr (by omega), fun e => by have h1 := hown q e; rcases hq with h | h <;> omega⟩
              have l3 : Lies wr (fun q => Nw N w.heap.size q ∧ (Value.slice A3 k c3).ownBlock ≠ some q) (.slice A7 n7 c7) (dB p.bd) :=
                ((LF2.out.keep hz2 fun q hq hS => HO2.out.block q hq hS.2)).mono fun q _ hq => ⟨hq.1.elim .inl fun h => .inr (by omega), fun e => by have h1 := hown q e; rcases hq.1 with h | h <;> omega⟩
              exact LiesL.cons (.c _ rfl) (LiesL.cons l1 (LiesL.cons l2 (LiesL.cons l3 (LiesL.nil _ _)))))
            have hby : (k + 1) * 88 ≤ 140737488355328 := by omega
            have hszw : w.heap.size ≤ wr.heap.size := by omega
            clear hown
            go_wp2_with (at_builtin; refine appO rfl (.tmp 65) (.tmp 67) 23 rfl 59 _ 4 88 info_Pr2 rfl (by decide) Tryz.underlying23 N w.heap.size (.slice A3 k c3) k _ (by rfl) HO3.out #[.string (ofL p.nm), .slice A1 p.rs.length c1, .slice A5 p.ms.length c5, .slice A7 n7 c7] (dP p) rfl (by rfl) HLL.out hby hszw (by decide) ?_
                         intro v5 w5 hB5 hg5
                         obtain ⟨A6, c6, rfl⟩ := hB5.shape
                         have HB8 := Lib.hid hB5
                         have HG8 := Lib.hid (HO3.out.grown hg5 hszw)
                         clear hB5 hg5)
            go_roundg (gO - 1)
            case rel => exact ⟨k + 1, A6, c6, by omega, by omega, by simp, rfl, by unfold Hid; rw [HTAKE.out]; exact HB8.out, (HB.out.trans (HB3.out.mono hsz)).trans HG8.out⟩
            case measure => omega
    · have HF := Lib.hid (show (l.take k).flatMap dP = l.flatMap dP by rw [List.take_of_length_le (by omega)])
      go_wp2_with fail
      go_ret
      exact ⟨_, rfl, by have := HO.out.lies; rw [HF.out] at this; exact this, HB.out⟩
/- Layer 10: the contract of source. -/
open Go.RowKit

theorem info_prot : (Tryz.prog.info? 59).map (fun i => (i.zero, i.size, i.bytes)) = some (some (.agg #[.string ⟨#[]⟩, .slice none 0 0, .slice none 0 0, .slice none 0 0]), 4, 88) := by kernel_rfl
theorem pr_shape {w : World} {S : Nat → Prop} {us : List Value} {p : Pr} (h : LiesL w S us (dP p)) : ∃ A n c A' n' c' B m d, us = [.string (ofL p.nm), .slice A n c, .slice A' n' c', .slice B m d] := by
 obtain ⟨hl, h⟩ := h
 unfold dP at hl h
 match us, hl with
 | [u0, u1, u2, u3], _ =>
  have h0 := (h 0 _ _ rfl rfl).cell_eq
  obtain ⟨A, n, c, h1, -⟩ := (h 1 _ _ rfl rfl).slc
  obtain ⟨A', n', c', h2, -⟩ := (h 2 _ _ rfl rfl).slc
  obtain ⟨B, m, d, h3, -⟩ := (h 3 _ _ rfl rfl).slc
  subst h0; subst h1; subst h2; subst h3
  exact ⟨A, n, c, A', n', c', B, m, d, rfl⟩
section
variable {w w' : World} {g E : Nat} {s : St}
theorem sourceL_no (n : Nat) (h : s.r = []) : sourceL E n s = ([], s) := by
 cases n with
 | zero => rfl
 | succ n => show (if s.r ≠ [] then _ else _) = _; rw [if_neg (by simp [h])]
theorem sourceL_yes (n : Nat) (h : s.r ≠ []) : sourceL E (n + 1) s = ((protocolP E s).1 :: (sourceL E n (protocolP E s).2).1, (sourceL E n (protocolP E s).2).2) := by
 show (if s.r ≠ [] then _ else _) = _
 rw [if_pos h]
 rfl
end
def SoRel (w : World) (g E B : Nat) (R : List Pr × St) (gk : Nat) (v : Value) (wr : World) : Prop :=
 ∃ (acc : List Pr) (s1 : St), s1.r.length ≤ gk ∧ acc.length + gk ≤ 8000 ∧ Hid (Bld wr B 59 4 v acc.length (acc.flatMap dP)) ∧ Hid (Prs wr g E s1) ∧ Hid (Only g w wr) ∧
  Hid (R.1 = acc ++ (sourceL E gk s1).1) ∧ Hid (R.2 = (sourceL E gk s1).2)
section
variable {w w' : World} {g E : Nat} {s : St}
set_option maxRecDepth 20000 in
set_option maxHeartbeats 2000000 in
theorem psource_any (h : Prs w g E s) : Calls Tryz.prog 40 #[.pointer (some ⟨g, 0, none⟩)] w (GotD w g E (sourceP E s).2 (.s 4 ((sourceP E s).1.flatMap dP))) := by
 obtain ⟨R, hR⟩ : ∃ R, sourceP E s = R := ⟨_, rfl⟩
 rw [hR]
 have hlt := h.lt
 have HR := Lib.hid (show sourceL E s.r.length s = R from hR)
 have H := Lib.hid h
 have hl8 := h.small.len
 obtain ⟨l0, hl0⟩ : ∃ l0, s.r.length = l0 := ⟨_, rfl⟩
 rw [hl0] at hl8
 have HL0 := Lib.hid hl0
 clear h hR hl0
 go_enter Tryz.func40, Tryz.ntmps40
 go_wp2_with fail
 go_loopg [3, 4, 5, 6, 7, 8, 9, 10] l0 (fun gk v _ _ _ _ _ _ _ wr => SoRel w g E w.heap.size R gk v wr)
 case atStart =>
  refine ⟨[], s, by have := HL0.out; omega, by simpa using hl8, Bld.nil _ _ _ _, H.out, Only.refl _ _, ?_, ?_⟩
  ·unfold Hid; rw [← HR.out, HL0.out]; rfl
  ·unfold Hid; rw [← HR.out, HL0.out]
 case round =>
  clear H
  obtain ⟨acc, s2, hr2, hacc, HB, HS, HO, HE1, HE2⟩ := hrel
  by_cases hne : s2.r = []
  ·have hm := Lib.hid (show decide (s2.r ≠ []) = false by simpa using hne)
   have HX := Lib.hid (show R = (acc, s2) by
    have h1 := HE1.out
    have h2 := HE2.out
    rw [sourceL_no _ hne] at h1 h2
    rw [List.append_nil] at h1
    exact Prod.ext h1 h2)
   clear hne
   go_wp2_with fail
   refine (pmore_any HS.out).mono ?_; rintro e w2 ⟨rfl, m, rfl⟩; rw [hm.out]
   have P2 := Lib.hid (HS.out.drewN m)
   have O2 := Lib.hid (show Only g w (wr.drewN m) from HO.out.drewN m)
   have B2 := Lib.hid (HB.out.drewN m)
   go_wp2_with fail
   go_ret
   exact ⟨_, rfl, by rw [HX.out]; exact B2.out.lies, by rw [HX.out]; exact P2.out, O2.out⟩
  ·have hm := Lib.hid (show decide (s2.r ≠ []) = true by simpa using hne)
   have heat := protocolP_eats (E := E) hne HS.out.err
   obtain ⟨gn, rfl⟩ : ∃ gn, gk = gn + 1 := ⟨gk - 1, by have := List.length_pos_iff.2 hne; omega⟩
   obtain ⟨s4, hs4⟩ : ∃ s4, (protocolP E s2).2 = s4 := ⟨_, rfl⟩
   obtain ⟨pr, hpr⟩ : ∃ pr, (protocolP E s2).1 = pr := ⟨_, rfl⟩
   rw [hs4] at heat
   have HE3 := Lib.hid (show R.1 = acc ++ pr :: (sourceL E gn s4).1 by have h1 := HE1.out; rw [sourceL_yes _ hne, hs4, hpr] at h1; exact h1)
   have HE4 := Lib.hid (show R.2 = (sourceL E gn s4).2 by have h1 := HE2.out; rw [sourceL_yes _ hne, hs4] at h1; exact h1)
   have HS4 := Lib.hid hs4
   have HPR := Lib.hid hpr
   have hl4 : s4.r.length ≤ gn := by omega
   clear hne hs4 hpr HE1 HE2 heat
   go_wp2_with fail
   refine (pmore_any HS.out).mono ?_; rintro e w2 ⟨rfl, m, rfl⟩; rw [hm.out]
   have P2 := Lib.hid (HS.out.drewN m)
   have O2 := Lib.hid (show Only g w (wr.drewN m) from HO.out.drewN m)
   have B2 := Lib.hid (HB.out.drewN m)
   go_wp2_with fail
   refine (pprotocol_any P2.out).mono ?_; rintro e w4 ⟨cs, rfl, LV, P4, O4⟩
   rw [HS4.out] at P4
   rw [HPR.out] at LV
   obtain ⟨A, m1, c1, A2, m2, c2, A3, m3, c3, hcs⟩ := pr_shape LV
   obtain rfl : cs = #[.string (ofL pr.nm), .slice A m1 c1, .slice A2 m2 c2, .slice A3 m3 c3] := by rw [← Array.toArray_toList (xs := cs), hcs]
   have P4' := Lib.hid P4
   have O4' := Lib.hid (O2.out.trans O4)
   have B4' := Lib.hid (B2.out.only O4 hlt)
   have LV' := Lib.hid (show LiesL w4 (fun k => w.heap.size ≤ k ∧ u3.ownBlock ≠ some k) [.string (ofL pr.nm), .slice A m1 c1, .slice A2 m2 c2, .slice A3 m3 c3] (dP pr) from LV.mono fun k _ hk => ⟨Nat.le_trans O2.out.size hk, fun e => by have := B2.out.lt e; omega⟩)
   clear P4 O4 LV hcs
   have hsz4 : w.heap.size ≤ w4.heap.size := O4'.out.size
   have hby : (acc.length + 1) * 88 ≤ 140737488355328 := by omega
   go_wp2_with (at_builtin; refine appD rfl _ _ 23 rfl 59 _ 4 88 info_prot rfl (by decide) Tryz.underlying23 w.heap.size u3 _ _ rfl B4'.out _ (dP pr) rfl rfl LV'.out hby hsz4 ?_ (by decide); intro v' w8 hown8 hg8; have hV8 := Lib.hid hown8; have hF8 := Lib.hid (grown_below B4'.out hg8 hsz4); clear hown8 hg8)
   go_roundg gn
   case rel =>
    refine ⟨acc ++ [pr], s4, hl4, by simp; omega, ?_, P4'.out.below hF8.out hlt, O4'.out.to hF8.out, ?_, HE4⟩
    ·have := hV8.out
     unfold Hid
     rw [List.length_append, List.flatMap_append]
     simpa using this
    ·unfold Hid; rw [HE3.out, List.append_assoc]; rfl
   case measure => omega
end
/- Layer 10: the contracts of validProtocol, Valid, Print and Parse. -/
open Go.RowKit

theorem ent_validMessage : ∀ args w, (callFunc 90 args).run Tryz.prog w = .ok (.enter 90 args) w := enters_of Tryz.func90 (by kernel_rfl) rfl
theorem ent_validProtocol : ∀ args w, (callFunc 48 args).run Tryz.prog w = .ok (.enter 48 args) w := enters_of Tryz.func48 (by kernel_rfl) rfl
section
variable {w w' : World} {S T : Nat → Prop}
set_option maxHeartbeats 8000000 in
theorem validProtocol_any (p : Pr) (v : Value) (hR : RPr S w p v) : Calls Tryz.prog 48 #[v] w (Tells w (.bool (vpB p))) := by
 obtain ⟨v1, v2, v3, rfl, L1, L2, L3⟩ := hR
 obtain ⟨A1, n1, c1, rfl, -⟩ := Lies.slc (show Lies w S v1 (.s 1 (p.rs.flatMap fun x => [dS x])) from L1)
 obtain ⟨A2, n2, c2, rfl, -⟩ := L2.slc
 obtain ⟨A3, n3, c3, rfl, -⟩ := Lies.slc (show Lies w S v3 (.s 7 (dIs p.bd)) from L3)
 obtain ⟨nm, rs, ms, bd⟩ := p
 obtain ⟨W0, hW0⟩ : ∃ W, (w.alloc (.cells #[.string (ofL nm), .slice A1 n1 c1, .slice A2 n2 c2, .slice A3 n3 c3] 59)).alloc (.cells #[.int .i64 300] 3) = W := ⟨_, rfl⟩
 have B1 := Lib.hid (show Below w.heap.size w W0 by rw [← hW0]; exact ((Below.refl _ w).alloc (Nat.le_refl _) _).alloc (by simp) _)
 have X1 := Lib.hid (show Bx W0 w.heap.size 59 #[.string (ofL nm), .slice A1 n1 c1, .slice A2 n2 c2, .slice A3 n3 c3] by rw [← hW0]; exact (Bx.new w _ _).alloc _)
 have X2 := Lib.hid (show Bx W0 (w.heap.size + 1) 3 #[.int .i64 300] by rw [← hW0]; exact Bx.new2 (size_alloc _ _))
 have M1 := Lib.hid (show Lies W0 S (.slice A1 n1 c1) (dL rs) from L1.belowT B1.out)
 have M2 := Lib.hid (show Lies W0 S (.slice A2 n2 c2) (.s 3 (ms.flatMap dM)) from L2.belowT B1.out)
 have M3 := Lib.hid (show Lies W0 (fun k => S k ∧ k < w.heap.size) (.slice A3 n3 c3) (dB bd) from (show Lies w (fun k => S k ∧ k < w.heap.size) (.slice A3 n3 c3) (dB bd) from L3.mono fun k hk hS => ⟨hS, hk⟩).belowT B1.out)
 have HW0 := Lib.hid hW0
 clear hW0 L1 L2 L3
 obtain ⟨p0, p1, p2, p3⟩ := X1.out.k4
 cases hc0 : wdB nm with
 | false =>
  have H := Lib.hid (show false = vpB ⟨nm, rs, ms, bd⟩ by unfold vpB; simp [hc0])
  have HC0 := Lib.hid hc0
  clear hc0
  go_enter Tryz.func48, Tryz.ntmps48
  go_wp2_with fail
  rw [HW0.out]
  refine (isWord_any _ _).mono ?_; rintro e w2 ⟨rfl, rfl⟩; rw [HC0.out]
  go_wp2_with fail
  go_ret
  exact ⟨by rw [H.out]; rfl, B1.out⟩
 | true =>
  cases hc1 : alB wdB 1 6 rs with
  | false =>
   have H := Lib.hid (show false = vpB ⟨nm, rs, ms, bd⟩ by unfold vpB; simp [hc0, hc1])
   have HC0 := Lib.hid hc0
   have HC1 := Lib.hid hc1
   clear hc0 hc1
   go_enter Tryz.func48, Tryz.ntmps48
   go_wp2_with fail
   rw [HW0.out]
   refine (isWord_any _ _).mono ?_; rintro e w2 ⟨rfl, rfl⟩; rw [HC0.out]
   go_wp2_with fail
   refine (allS_any _ wdB isWord_q 1 6 rs _ M1.out (by decide)).mono ?_; rintro e w3 ⟨rfl, hb3⟩; rw [HC1.out]
   have B3 := Lib.hid (B1.out.trans (hb3.mono B1.out.size))
   have Y1 := X1.out.below hb3
   have q2 : w3.cell? ⟨w.heap.size, 2, none⟩ = some (.slice A2 n2 c2) := Y1.cell 2
   have G3 := Lib.hid hb3
   clear hb3 Y1
   go_wp2_with fail
   go_ret
   exact ⟨by rw [H.out]; rfl, B3.out⟩
  | true =>
   cases hc2 : alB vmB 0 40 ms with
   | false =>
    have H := Lib.hid (show false = vpB ⟨nm, rs, ms, bd⟩ by unfold vpB; simp [hc0, hc1, hc2])
    have HC0 := Lib.hid hc0
    have HC1 := Lib.hid hc1
    have HC2 := Lib.hid hc2
    clear hc0 hc1 hc2
    go_enter Tryz.func48, Tryz.ntmps48
    go_wp2_with fail
    rw [HW0.out]
    refine (isWord_any _ _).mono ?_; rintro e w2 ⟨rfl, rfl⟩; rw [HC0.out]
    go_wp2_with fail
    refine (allS_any _ wdB isWord_q 1 6 rs _ M1.out (by decide)).mono ?_; rintro e w3 ⟨rfl, hb3⟩; rw [HC1.out]
    have B3 := Lib.hid (B1.out.trans (hb3.mono B1.out.size))
    have Y1 := X1.out.below hb3
    have q2 : w3.cell? ⟨w.heap.size, 2, none⟩ = some (.slice A2 n2 c2) := Y1.cell 2
    have G3 := Lib.hid hb3
    clear hb3 Y1
    go_wp2_with fail
    refine (allM_any _ vmB (S := S) ⟨ent_validMessage, fun _ x v h => validMessage_any x v h⟩ 0 40 ms _ (M2.out.belowT G3.out) (by decide)).mono ?_; rintro e w4 ⟨rfl, hb4⟩; rw [HC2.out]
    have B4 := Lib.hid (B3.out.trans (hb4.mono B3.out.size))
    have G4 := Lib.hid (G3.out.trans (hb4.mono G3.out.size))
    have Y2 := X1.out.below G4.out
    have r3 : w4.cell? ⟨w.heap.size, 3, none⟩ = some (.slice A3 n3 c3) := Y2.cell 3
    clear hb4 Y2
    go_wp2_with fail
    go_ret
    exact ⟨by rw [H.out]; rfl, B4.out⟩
   | true =>
    have H := Lib.hid (show (visI 0 300 bd).isSome = vpB ⟨nm, rs, ms, bd⟩ by unfold vpB; simp [hc0, hc1, hc2])
    have HC0 := Lib.hid hc0
    have HC1 := Lib.hid hc1
    have HC2 := Lib.hid hc2
    clear hc0 hc1 hc2
    go_enter Tryz.func48, Tryz.ntmps48
    go_wp2_with fail
    rw [HW0.out]
    refine (isWord_any _ _).mono ?_; rintro e w2 ⟨rfl, rfl⟩; rw [HC0.out]
    go_wp2_with fail
    refine (allS_any _ wdB isWord_q 1 6 rs _ M1.out (by decide)).mono ?_; rintro e w3 ⟨rfl, hb3⟩; rw [HC1.out]
    have B3 := Lib.hid (B1.out.trans (hb3.mono B1.out.size))
    have Y1 := X1.out.below hb3
    have q2 : w3.cell? ⟨w.heap.size, 2, none⟩ = some (.slice A2 n2 c2) := Y1.cell 2
    have G3 := Lib.hid hb3
    clear hb3 Y1
    go_wp2_with fail
    refine (allM_any _ vmB (S := S) ⟨ent_validMessage, fun _ x v h => validMessage_any x v h⟩ 0 40 ms _ (M2.out.belowT G3.out) (by decide)).mono ?_; rintro e w4 ⟨rfl, hb4⟩; rw [HC2.out]
    have B4 := Lib.hid (B3.out.trans (hb4.mono B3.out.size))
    have G4 := Lib.hid (G3.out.trans (hb4.mono G3.out.size))
    have Y2 := X1.out.below G4.out
    have r3 : w4.cell? ⟨w.heap.size, 3, none⟩ = some (.slice A3 n3 c3) := Y2.cell 3
    clear hb4 Y2
    go_wp2_with fail
    refine (validItems_any (w.heap.size + 1) 0 300 bd _ (X2.out.below G4.out) (M3.out.belowT G4.out) (by intro h; omega) (by decide) (by decide) (by decide)).mono ?_
    rintro e w5 ⟨O5, (⟨hr, rfl⟩ | ⟨l1, hr, -, -, rfl, -⟩)⟩
    ·have B5 := Lib.hid (B4.out.trans (O5.toBelow (B := w.heap.size) (by omega) B4.out.size))
     have HF := Lib.hid (show false = vpB ⟨nm, rs, ms, bd⟩ by rw [← H.out, hr]; rfl)
     clear O5 hr
     go_wp2_with fail
     go_ret
     exact ⟨by rw [← HF.out]; rfl, B5.out⟩
    ·have B5 := Lib.hid (B4.out.trans (O5.toBelow (B := w.heap.size) (by omega) B4.out.size))
     have HF := Lib.hid (show true = vpB ⟨nm, rs, ms, bd⟩ by rw [← H.out, hr]; rfl)
     clear O5 hr
     go_wp2_with fail
     go_ret
     exact ⟨by rw [← HF.out]; rfl, B5.out⟩
set_option maxHeartbeats 8000000 in
theorem valid_any (ht : Tb w) (hg : gT < w.heap.size) (ps : List Pr) (v : Value) (L : Lies w S v (.s 4 (ps.flatMap dP))) :
  Calls Tryz.prog 18 #[v] w (Tells w (.bool (vB ps))) := by
 obtain ⟨A, m, c, rfl, -⟩ := L.slc
 have HT := Lib.hid ht
 have HG := Lib.hid hg
 have LL := Lib.hid L
 clear ht hg L
 cases hc0 : alB vpB 0 10 ps with
 | false =>
  have H := Lib.hid (show false = vB ps by unfold vB; simp [hc0])
  have HC0 := Lib.hid hc0
  clear hc0
  go_enter Tryz.func18, Tryz.ntmps18
  go_wp2_with fail
  refine (allP_any _ vpB (S := S) ⟨ent_validProtocol, fun _ x v h => validProtocol_any x v h⟩ 0 10 ps _ LL.out (by decide)).mono ?_; rintro e w3 ⟨rfl, hb3⟩; rw [HC0.out]
  have B3 := Lib.hid hb3
  clear hb3
  go_wp2_with fail
  go_ret
  exact ⟨by rw [H.out]; rfl, B3.out⟩
 | true =>
  have HS := Lib.hid (vall_sm hc0)
  have H := Lib.hid (show decide ((canonB ps).length ≤ 8000) = vB ps by unfold vB; simp [hc0])
  have HC0 := Lib.hid hc0
  clear hc0
  obtain ⟨s, hs⟩ : ∃ s, ofL (canonB ps) = s := ⟨_, rfl⟩
  have hsz : s.size = (canonB ps).length := by rw [← hs, ofL_size]
  have HSZ := Lib.hid hsz
  have HSE := Lib.hid hs
  clear hs hsz
  have HF := Lib.hid (show decide ((s.size : Int) ≤ 8000) = vB ps by rw [← H.out, ← HSZ.out, decide_eq_decide]; omega)
  go_enter Tryz.func18, Tryz.ntmps18
  go_wp2_with fail
  refine (allP_any _ vpB (S := S) ⟨ent_validProtocol, fun _ x v h => validProtocol_any x v h⟩ 0 10 ps _ LL.out (by decide)).mono ?_; rintro e w3 ⟨rfl, hb3⟩; rw [HC0.out]
  have B3 := Lib.hid hb3
  clear hb3
  go_wp2_with fail
  refine (canon_any (S := fun k => S k ∧ k < w.heap.size) (HT.out.below B3.out) (Nat.lt_of_lt_of_le HG.out B3.out.size) ps HS.out.1 _ ((show Lies w (fun k => S k ∧ k < w.heap.size) _ _ from LL.out.mono fun k hk hS => ⟨hS, hk⟩).belowT B3.out) (fun k hk => Nat.lt_of_lt_of_le hk.2 B3.out.size) HS.out.2.1 HS.out.2.2).mono ?_; rintro e w4 ⟨rfl, hb4⟩; rw [HSE.out]
  have B4 := Lib.hid (B3.out.trans (hb4.mono B3.out.size))
  clear hb4
  go_wp2_with fail
  go_ret
  exact ⟨by rw [← HF.out]; rfl, B4.out⟩
end
end Go.Proofs.YtekpefcggikcbaaGreatDoor
