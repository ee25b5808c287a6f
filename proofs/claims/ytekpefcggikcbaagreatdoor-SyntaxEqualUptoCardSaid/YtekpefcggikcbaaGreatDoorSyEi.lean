/- Layer 10: the contract of the reference's EqualItems. -/
import Derived.Test.YtekpefcggikcbaaGreatDoorMSyTw
import Derived.Test.YtekpefcggikcbaaGreatDoorMSyCt
import Derived.Test.YtekpefcggikcbaaGreatDoorMRegE
namespace Go.Proofs.YtekpefcggikcbaaGreatDoor
open Go.RowKit

def EiRel {α : Type} (W0 : World) (B : Nat) (l m : List α) (gk : Nat) (v : Value) (wr : World) : Prop :=
 ∃ i : Nat, v = .int .i64 (i : Int) ∧ i ≤ l.length ∧ l.length ≤ gk + i ∧ Hid (l.take i = m.take i) ∧ Hid (Below B W0 wr)
theorem info_RIt : (Tryz.prog.info? 144).map (fun i => (i.zero, i.size, i.bytes)) = some (some (.agg #[.int .i64 0, .string ⟨#[]⟩, .slice none 0 0, .string ⟨#[]⟩, .string ⟨#[]⟩, .int .i64 0, .slice none 0 0]), 7, 112) := by kernel_rfl
theorem tdBl_get {b : List It} {l : List (List It)} (h : tdBl l) (hb : b ∈ l) : tdIs b := tdBl_mem h hb
set_option maxRecDepth 20000 in
set_option maxHeartbeats 16000000 in
theorem eqItems_any : ∀ (n : Nat) (l m : List It) (w : World) (v u : Value) (S T : Nat → Prop), nIs l < n → nIs l ≤ 1000000000 → tdIs l → Lir w S v (dB l) → Lir w T u (dB m) → Calls Tryz.prog 45 #[v, u] w (Tells w (.bool (eqIs l m))) := by
 intro n
 induction n with
 | zero => intro l m w v u S T h; omega
 | succ n ih =>
  intro l m w v u S T hn hbig htd L M
  obtain ⟨A, n1, c, rfl, hm⟩ := Lir.slc (show Lir w S v (.s 7 (dIs l)) from L)
  rw [dIs_map, flat_len dIt_len] at hm
  obtain rfl : n1 = l.length := by omega
  obtain ⟨A2, n2, c2, rfl, hm2⟩ := Lir.slc (show Lir w T u (.s 7 (dIs m)) from M)
  rw [dIs_map, flat_len dIt_len] at hm2
  obtain rfl : n2 = m.length := by omega
  have hll := nIs_len l
  have hlen1 : l.length ≤ 1000000000 := by omega
  have IH := Lib.hid ih
  have LL := Lib.hid L
  have MM := Lib.hid M
  have HBIG := Lib.hid hbig
  have HSM := Lib.hid hn
  have HTD := Lib.hid htd
  clear ih L M hm hm2 hll hbig hn htd
  have HDF := Lib.hid (show l ≠ m → eqIs l m = false from fun h => by
   cases he : eqIs l m with
   | false => rfl
   | true => exact absurd (eqIs_iff.1 he) h)
  by_cases hlen : l.length = m.length
  rotate_left
  ·have HF := Lib.hid (HDF.out fun e => hlen (by rw [e]))
   have e1 : ((l.length : Int) == (m.length : Int)) = false := by rw [beq_eq_false_iff_ne]; omega
   clear hlen
   go_enter Tryz.func45, Tryz.ntmps45
   go_wp2_with fail
   go_ret
   exact ⟨by rw [HF.out]; rfl, Below.refl _ _⟩
  rw [← hlen]
  have HLN := Lib.hid hlen
  clear hlen
  go_enter Tryz.func45, Tryz.ntmps45
  go_wp2_with fail
  go_loopg [5, 6, 7, 8] l.length (fun gk v5 _ _ _ wr => EiRel w w.heap.size l m gk v5 wr)
  case atStart => exact ⟨0, rfl, by omega, by omega, by unfold Hid; simp, Below.refl _ _⟩
  case round =>
   obtain ⟨i, rfl, hil, hgk, HQ, HR⟩ := hrel
   by_cases hie : i = l.length
   ·have HF := Lib.hid (show eqIs l m = true by
     rw [eqIs_iff]
     have := HQ.out
     rw [hie, List.take_length, HLN.out, List.take_length] at this
     exact this)
    subst hie
    go_wp2_with fail
    go_ret
    exact ⟨by rw [HF.out]; rfl, HR.out⟩
   have hlt : i < l.length := by omega
   obtain ⟨x, hx⟩ : ∃ x, l[i]? = some x := ⟨l[i], List.getElem?_eq_getElem hlt⟩
   obtain ⟨y, hy⟩ : ∃ y, m[i]? = some y := ⟨m[i]'(by rw [← HLN.out]; exact hlt), List.getElem?_eq_getElem (by rw [← HLN.out]; exact hlt)⟩
   obtain ⟨k1, fr1, to1, nm1, al1, tk1, bl1⟩ := x
   obtain ⟨k2, fr2, to2, nm2, al2, tk2, bl2⟩ := y
   obtain ⟨bb, o, n', c', he, -, -, -, hbl1, hcell⟩ := (LL.out.belowT HR.out).cell (l := dIs l) (z := 7) (by rw [dIs_map]; intro e0; have := congrArg List.length e0; rw [flat_len dIt_len, List.length_nil] at this; omega)
   obtain ⟨bb2, o2, n2', c2', he2, -, -, -, hbl2, hcell2⟩ := (MM.out.belowT HR.out).cell (l := dIs m) (z := 7) (by rw [dIs_map]; intro e0; have := congrArg List.length e0; rw [flat_len dIt_len, List.length_nil] at this; have := HLN.out; omega)
   simp only [Value.slice.injEq] at he he2
   obtain ⟨rfl, -, rfl⟩ := he
   obtain ⟨rfl, -, rfl⟩ := he2
   obtain ⟨A1, c1, A3, c3, u0, u1, u2, u3, u4, u5, u6, LT, LB⟩ := rit_cells hcell hx
   obtain ⟨B1, d1, B3, d3, p0, p1, p2, p3, p4, p5, p6, MT, MB⟩ := rit_cells hcell2 hy
   have htd1 := tdIs_mem HTD.out (List.mem_of_getElem? hx)
   rw [tdIt] at htd1
   have HTO := Lib.hid htd1.1
   have HTB := Lib.hid htd1.2
   have hnb : nBl bl1 + 1 < nIs l := by have := nIt_mem (List.mem_of_getElem? hx); rw [nIt] at this; exact this
   have HNB := Lib.hid hnb
   have hbll : bl1.length ≤ 1000000000 := by have := nBl_len bl1; have := HBIG.out; omega
   have HX := Lib.hid hx
   have HY := Lib.hid hy
   have HLT := Lib.hid LT
   have HLB := Lib.hid LB
   have HMT := Lib.hid MT
   have HMB := Lib.hid MB
   have HNE := Lib.hid (show (It.mk k1 fr1 to1 nm1 al1 tk1 bl1) ≠ .mk k2 fr2 to2 nm2 al2 tk2 bl2 → eqIs l m = false by
    intro hne
    apply HDF.out
    intro e
    have h1 := hx
    rw [e, hy] at h1
    exact hne (Option.some.inj h1).symm)
   have hil1 : (i : Int) < (l.length : Int) := by omega
   clear hcell hcell2 hx hy LT LB MT MB htd1 hnb
   go_wp2_with fail
   generalize gk = gO at *
   generalize wr = WR at *
   have HST := Lib.hid (fun vs => TwI.start (wi := WR) (T := 144) (va := .slice (some ⟨bb, o, none⟩) l.length c) (vb := .slice (some ⟨bb2, o2, none⟩) l.length c2) (iv := .int .i64 (i : Int)) (px := .pointer (some ⟨bb, o + i * 7, none⟩)) (py := .pointer (some ⟨bb2, o2 + i * 7, none⟩)) (cx := #[.int .i64 k1, .string (ofL fr1), .slice A1 to1.length c1, .string (ofL nm1), .string (ofL al1), .int .i64 tk1, .slice A3 bl1.length c3]) (cy := #[.int .i64 k2, .string (ofL fr2), .slice B1 to2.length d1, .string (ofL nm2), .string (ofL al2), .int .i64 tk2, .slice B3 bl2.length d3]) (zs := #[.int .i64 0, .string ⟨#[]⟩, .slice none 0 0, .string ⟨#[]⟩, .string ⟨#[]⟩, .int .i64 0, .slice none 0 0]) (vs := vs))
   refine region_invE (n := 97) (TwI WR 144 (.slice (some ⟨bb, o, none⟩) l.length c) (.slice (some ⟨bb2, o2, none⟩) l.length c2) (.int .i64 (i : Int)) (.pointer (some ⟨bb, o + i * 7, none⟩)) (.pointer (some ⟨bb2, o2 + i * 7, none⟩)) #[.int .i64 k1, .string (ofL fr1), .slice A1 to1.length c1, .string (ofL nm1), .string (ofL al1), .int .i64 tk1, .slice A3 bl1.length c3] #[.int .i64 k2, .string (ofL fr2), .slice B1 to2.length d1, .string (ofL nm2), .string (ofL al2), .int .i64 tk2, .slice B3 bl2.length d3] #[.int .i64 0, .string ⟨#[]⟩, .slice none 0 0, .string ⟨#[]⟩, .string ⟨#[]⟩, .int .i64 0, .slice none 0 0]) (by kernel_rfl) (by kernel_rfl) rfl ?_ (allOps_spec ?_) ?_
   ·intro vs
    exact HST.out vs
   ·clear HST
    refine ⟨?_, ?_, ?_, ?_, ?_, ?_, ?_, ?_, ?_, ?_, ?_, ?_, trivial⟩
    ·intro L vs a w2 hB hL hd hI
     have b0 : a.tmps[0]?.getD undef = .slice (some ⟨bb, o, none⟩) l.length c := hB.at 0 (by kernel_rfl)
     exact stepI_run (v := .slice (some ⟨bb, o, none⟩) l.length c) rfl (by simp [execOp, go_sem, Act.eval, b0]) hI.t0
    ·intro L vs a w2 hB hL hd hI
     have b0 : a.tmps[5]?.getD undef = .int .i64 (i : Int) := hB.at 5 (by kernel_rfl)
     exact stepI_run (v := .int .i64 (i : Int)) rfl (by simp [execOp, go_sem, Act.eval, b0]) hI.t1
    ·intro L vs a w2 hB hL hd hI
     have b0 : a.tmps[20]?.getD undef = .slice (some ⟨bb, o, none⟩) l.length c := (hB.val 0 (hd ⟨0, .data⟩ (by simp) rfl) 20 rfl).trans (hI.p0 (hd ⟨0, .data⟩ (by simp) rfl))
     have b1 : a.tmps[21]?.getD undef = .int .i64 (i : Int) := (hB.val 1 (hd ⟨1, .data⟩ (by simp) rfl) 21 rfl).trans (hI.p1 (hd ⟨1, .data⟩ (by simp) rfl))
     exact stepI_run (v := .pointer (some ⟨bb, o + i * 7, none⟩)) rfl (by simp [execOp, go_sem, Act.eval, b0, b1, hil1]) hI.t2
    ·intro L vs a w2 hB hL hd hI
     have b0 : a.tmps[22]?.getD undef = .pointer (some ⟨bb, o + i * 7, none⟩) := (hB.val 2 (hd ⟨2, .data⟩ (by simp) rfl) 22 rfl).trans (hI.p2 (hd ⟨2, .data⟩ (by simp) rfl))
     have q0 := (hI.bel.cell (World.block_lt_of_cell? _ _ u0)).trans u0
     have q1 := (hI.bel.cell (World.block_lt_of_cell? _ _ u1)).trans u1
     have q2 := (hI.bel.cell (World.block_lt_of_cell? _ _ u2)).trans u2
     have q3 := (hI.bel.cell (World.block_lt_of_cell? _ _ u3)).trans u3
     have q4 := (hI.bel.cell (World.block_lt_of_cell? _ _ u4)).trans u4
     have q5 := (hI.bel.cell (World.block_lt_of_cell? _ _ u5)).trans u5
     have q6 := (hI.bel.cell (World.block_lt_of_cell? _ _ u6)).trans u6
     exact stepI_run (v := .agg #[.int .i64 k1, .string (ofL fr1), .slice A1 to1.length c1, .string (ofL nm1), .string (ofL al1), .int .i64 tk1, .slice A3 bl1.length c3]) rfl (by simp [execOp, go_sem, Act.eval, b0, q0, q1, q2, q3, q4, q5, q6]) hI.t3
    ·intro L vs a w2 hB hL hd hI
     have b0 : a.tmps[1]?.getD undef = .slice (some ⟨bb2, o2, none⟩) l.length c2 := hB.at 1 (by kernel_rfl)
     exact stepI_run (v := .slice (some ⟨bb2, o2, none⟩) l.length c2) rfl (by simp [execOp, go_sem, Act.eval, b0]) hI.t4
    ·intro L vs a w2 hB hL hd hI
     have b0 : a.tmps[5]?.getD undef = .int .i64 (i : Int) := hB.at 5 (by kernel_rfl)
     exact stepI_run (v := .int .i64 (i : Int)) rfl (by simp [execOp, go_sem, Act.eval, b0]) hI.t5
    ·intro L vs a w2 hB hL hd hI
     have b0 : a.tmps[24]?.getD undef = .slice (some ⟨bb2, o2, none⟩) l.length c2 := (hB.val 4 (hd ⟨4, .data⟩ (by simp) rfl) 24 rfl).trans (hI.p4 (hd ⟨4, .data⟩ (by simp) rfl))
     have b1 : a.tmps[25]?.getD undef = .int .i64 (i : Int) := (hB.val 5 (hd ⟨5, .data⟩ (by simp) rfl) 25 rfl).trans (hI.p5 (hd ⟨5, .data⟩ (by simp) rfl))
     exact stepI_run (v := .pointer (some ⟨bb2, o2 + i * 7, none⟩)) rfl (by simp [execOp, go_sem, Act.eval, b0, b1, hil1]) hI.t6
    ·intro L vs a w2 hB hL hd hI
     have b0 : a.tmps[26]?.getD undef = .pointer (some ⟨bb2, o2 + i * 7, none⟩) := (hB.val 6 (hd ⟨6, .data⟩ (by simp) rfl) 26 rfl).trans (hI.p6 (hd ⟨6, .data⟩ (by simp) rfl))
     have q0 := (hI.bel.cell (World.block_lt_of_cell? _ _ p0)).trans p0
     have q1 := (hI.bel.cell (World.block_lt_of_cell? _ _ p1)).trans p1
     have q2 := (hI.bel.cell (World.block_lt_of_cell? _ _ p2)).trans p2
     have q3 := (hI.bel.cell (World.block_lt_of_cell? _ _ p3)).trans p3
     have q4 := (hI.bel.cell (World.block_lt_of_cell? _ _ p4)).trans p4
     have q5 := (hI.bel.cell (World.block_lt_of_cell? _ _ p5)).trans p5
     have q6 := (hI.bel.cell (World.block_lt_of_cell? _ _ p6)).trans p6
     exact stepI_run (v := .agg #[.int .i64 k2, .string (ofL fr2), .slice B1 to2.length d1, .string (ofL nm2), .string (ofL al2), .int .i64 tk2, .slice B3 bl2.length d3]) rfl (by simp [execOp, go_sem, Act.eval, b0, q0, q1, q2, q3, q4, q5, q6]) hI.t7
    ·intro L vs a w2 hB hL hd hI
     have h1 : L 10 = false := hB.wait 8 10 hL (by kernel_rfl)
     exact stepI_run (v := .pointer (some ⟨w2.heap.size, 0, none⟩)) (w' := w2.alloc (.cells #[.int .i64 0, .string ⟨#[]⟩, .slice none 0 0, .string ⟨#[]⟩, .string ⟨#[]⟩, .int .i64 0, .slice none 0 0] 144)) rfl (exec_alloc 144 rfl info_RIt) (hI.t8 h1)
    ·intro L vs a w2 hB hL hd hI
     have h1 : L 11 = false := hB.wait 9 11 hL (by kernel_rfl)
     exact stepI_run (v := .pointer (some ⟨w2.heap.size, 0, none⟩)) (w' := w2.alloc (.cells #[.int .i64 0, .string ⟨#[]⟩, .slice none 0 0, .string ⟨#[]⟩, .string ⟨#[]⟩, .int .i64 0, .slice none 0 0] 144)) rfl (exec_alloc 144 rfl info_RIt) (hI.t9 h1)
    ·intro L vs a w2 hB hL hd hI
     have h7 : L 3 = true := hd ⟨3, .data⟩ (by simp) rfl
     have h8 : L 8 = true := hd ⟨8, .data⟩ (by simp) rfl
     obtain ⟨b, h8v, hwb, hx⟩ := hI.bA h8
     rw [hL, if_neg Bool.false_ne_true] at hx
     have b6 : a.tmps[6]?.getD undef = .pointer (some ⟨b, 0, none⟩) := (hB.val 8 h8 6 rfl).trans h8v
     have b25 : a.tmps[23]?.getD undef = .agg #[.int .i64 k1, .string (ofL fr1), .slice A1 to1.length c1, .string (ofL nm1), .string (ofL al1), .int .i64 tk1, .slice A3 bl1.length c3] := (hB.val 3 h7 23 rfl).trans (hI.p3 h7)
     exact stepI_store_row rfl 144 6 23 rfl b _ b6 b25 _ hx (by kernel_rfl) rfl (by simp [Value.oneCell']) (hI.t10 h8v h8 hwb hx)
    ·intro L vs a w2 hB hL hd hI
     have h7 : L 7 = true := hd ⟨7, .data⟩ (by simp) rfl
     have h8 : L 9 = true := hd ⟨9, .data⟩ (by simp) rfl
     obtain ⟨b, h8v, hwb, hx⟩ := hI.bB h8
     rw [hL, if_neg Bool.false_ne_true] at hx
     have b6 : a.tmps[7]?.getD undef = .pointer (some ⟨b, 0, none⟩) := (hB.val 9 h8 7 rfl).trans h8v
     have b25 : a.tmps[27]?.getD undef = .agg #[.int .i64 k2, .string (ofL fr2), .slice B1 to2.length d1, .string (ofL nm2), .string (ofL al2), .int .i64 tk2, .slice B3 bl2.length d3] := (hB.val 7 h7 27 rfl).trans (hI.p7 h7)
     exact stepI_store_row rfl 144 7 27 rfl b _ b6 b25 _ hx (by kernel_rfl) rfl (by simp [Value.oneCell']) (hI.t11 h8v h8 hwb hx)
   ·intro L vs W2 hall hI
    obtain ⟨BF, b1, b2, h8, h9, hw1, hw2, XF, YF⟩ := hI.fin (fun i hi => hall i hi)
    clear hI hall HST
    simp only [putAll, Act.put, List.setIfInBounds_toArray, List.set_cons_zero, List.set_cons_succ, Nat.zero_add, Nat.reduceAdd, h8, h9]
    clear h8 h9
    have XF2 := Lib.hid XF
    have YF2 := Lib.hid YF
    have hlt1 : b1 < W2.heap.size := XF.lt
    have hlt2 : b2 < W2.heap.size := YF.lt
    have BF2 := Lib.hid BF
    have HR2 := Lib.hid (HR.out.trans (BF.mono HR.out.size))
    have HLT2 := Lib.hid (HLT.out.belowT BF)
    have HMT2 := Lib.hid (HMT.out.belowT BF)
    obtain ⟨x0, x1, x2, x3, x4, x5, x6⟩ := XF2.out.k7
    obtain ⟨y0, y1, y2, y3, y4, y5, y6⟩ := YF2.out.k7
    clear XF YF BF u0 u1 u2 u3 u4 u5 u6 p0 p1 p2 p3 p4 p5 p6
    by_cases g0 : k1 = k2
    rotate_left
    ·have HF := Lib.hid (HNE.out (by intro e; apply g0; injection e with e0 e1 e2 e3 e4 e5 e6))
     have n1 : (k1 == k2) = false := by rw [beq_eq_false_iff_ne]; exact g0
     have n2 : (k1 != k2) = true := by rw [bne, n1]; rfl
     clear g0
     go_wp2_with fail
     go_ret
     exact ⟨by rw [HF.out]; rfl, HR2.out⟩
    subst g0
    by_cases g1 : fr1 = fr2
    rotate_left
    ·have HF := Lib.hid (HNE.out (by intro e; apply g1; injection e with e0 e1 e2 e3 e4 e5 e6))
     have n1 : ((ofL fr1).toList == (ofL fr2).toList) = false := by rw [ofL_toList, ofL_toList, beq_eq_false_iff_ne]; exact g1
     clear g1
     go_wp2_with fail
     go_ret
     exact ⟨by rw [HF.out]; rfl, HR2.out⟩
    subst g1
    by_cases g2 : to1 = to2
    rotate_left
    ·have HF := Lib.hid (HNE.out (by intro e; apply g2; injection e with e0 e1 e2 e3 e4 e5 e6))
     have HD := Lib.hid (show decide (to1 = to2) = false from decide_eq_false g2)
     clear g2
     go_wp2_with fail
     refine (sameStrs_any to1 to2 _ _ HLT2.out HMT2.out (fun _ => HTO.out)).mono ?_; rintro e w3 ⟨rfl, hb3⟩; rw [HD.out]
     have BW := Lib.hid hb3
     obtain ⟨x0, x1, x2, x3, x4, x5, x6⟩ := (XF2.out.below hb3).k7
     obtain ⟨y0, y1, y2, y3, y4, y5, y6⟩ := (YF2.out.below hb3).k7
     have HR3 := Lib.hid (HR2.out.trans (hb3.mono HR2.out.size))
     clear hb3
     go_wp2_with fail
     go_ret
     exact ⟨by rw [HF.out]; rfl, HR3.out⟩
    have HD := Lib.hid (show decide (to1 = to2) = true from decide_eq_true g2)
    have HTE := Lib.hid g2
    clear g2
    by_cases g3 : nm1 = nm2
    rotate_left
    ·have HF := Lib.hid (HNE.out (by intro e; apply g3; injection e with e0 e1 e2 e3 e4 e5 e6))
     have n1 : ((ofL nm1).toList == (ofL nm2).toList) = false := by rw [ofL_toList, ofL_toList, beq_eq_false_iff_ne]; exact g3
     clear g3
     go_wp2_with fail
     refine (sameStrs_any to1 to2 _ _ HLT2.out HMT2.out (fun _ => HTO.out)).mono ?_; rintro e w3 ⟨rfl, hb3⟩; rw [HD.out]
     have BW := Lib.hid hb3
     obtain ⟨x0, x1, x2, x3, x4, x5, x6⟩ := (XF2.out.below hb3).k7
     obtain ⟨y0, y1, y2, y3, y4, y5, y6⟩ := (YF2.out.below hb3).k7
     have HR3 := Lib.hid (HR2.out.trans (hb3.mono HR2.out.size))
     clear hb3
     go_wp2_with fail
     go_ret
     exact ⟨by rw [HF.out]; rfl, HR3.out⟩
    subst g3
    by_cases g4 : al1 = al2
    rotate_left
    ·have HF := Lib.hid (HNE.out (by intro e; apply g4; injection e with e0 e1 e2 e3 e4 e5 e6))
     have n1 : ((ofL al1).toList == (ofL al2).toList) = false := by rw [ofL_toList, ofL_toList, beq_eq_false_iff_ne]; exact g4
     clear g4
     go_wp2_with fail
     refine (sameStrs_any to1 to2 _ _ HLT2.out HMT2.out (fun _ => HTO.out)).mono ?_; rintro e w3 ⟨rfl, hb3⟩; rw [HD.out]
     have BW := Lib.hid hb3
     obtain ⟨x0, x1, x2, x3, x4, x5, x6⟩ := (XF2.out.below hb3).k7
     obtain ⟨y0, y1, y2, y3, y4, y5, y6⟩ := (YF2.out.below hb3).k7
     have HR3 := Lib.hid (HR2.out.trans (hb3.mono HR2.out.size))
     clear hb3
     go_wp2_with fail
     go_ret
     exact ⟨by rw [HF.out]; rfl, HR3.out⟩
    subst g4
    by_cases g5 : tk1 = tk2
    rotate_left
    ·have HF := Lib.hid (HNE.out (by intro e; apply g5; injection e with e0 e1 e2 e3 e4 e5 e6))
     have n1 : (tk1 == tk2) = false := by rw [beq_eq_false_iff_ne]; exact g5
     have n2 : (tk1 != tk2) = true := by rw [bne, n1]; rfl
     clear g5
     go_wp2_with fail
     refine (sameStrs_any to1 to2 _ _ HLT2.out HMT2.out (fun _ => HTO.out)).mono ?_; rintro e w3 ⟨rfl, hb3⟩; rw [HD.out]
     have BW := Lib.hid hb3
     obtain ⟨x0, x1, x2, x3, x4, x5, x6⟩ := (XF2.out.below hb3).k7
     obtain ⟨y0, y1, y2, y3, y4, y5, y6⟩ := (YF2.out.below hb3).k7
     have HR3 := Lib.hid (HR2.out.trans (hb3.mono HR2.out.size))
     clear hb3
     go_wp2_with fail
     go_ret
     exact ⟨by rw [HF.out]; rfl, HR3.out⟩
    subst g5
    by_cases g6 : bl1.length = bl2.length
    rotate_left
    ·have HF := Lib.hid (HNE.out (by intro e; apply g6; injection e with e0 e1 e2 e3 e4 e5 e6; rw [e6]))
     have n1 : ((bl1.length : Int) == (bl2.length : Int)) = false := by rw [beq_eq_false_iff_ne]; omega
     clear g6
     go_wp2_with fail
     refine (sameStrs_any to1 to2 _ _ HLT2.out HMT2.out (fun _ => HTO.out)).mono ?_; rintro e w3 ⟨rfl, hb3⟩; rw [HD.out]
     have BW := Lib.hid hb3
     obtain ⟨x0, x1, x2, x3, x4, x5, x6⟩ := (XF2.out.below hb3).k7
     obtain ⟨y0, y1, y2, y3, y4, y5, y6⟩ := (YF2.out.below hb3).k7
     have HR3 := Lib.hid (HR2.out.trans (hb3.mono HR2.out.size))
     clear hb3
     go_wp2_with fail
     go_ret
     exact ⟨by rw [HF.out]; rfl, HR3.out⟩
    rw [← g6] at y6
    have G6 := Lib.hid g6
    clear g6
    go_wp2_with fail
    refine (sameStrs_any to1 to2 _ _ HLT2.out HMT2.out (fun _ => HTO.out)).mono ?_; rintro e w3 ⟨rfl, hb3⟩; rw [HD.out]
    have BW := Lib.hid hb3
    obtain ⟨x0, x1, x2, x3, x4, x5, x6⟩ := (XF2.out.below hb3).k7
    obtain ⟨y0, y1, y2, y3, y4, y5, y6⟩ := (YF2.out.below hb3).k7
    have HR3 := Lib.hid (HR2.out.trans (hb3.mono HR2.out.size))
    clear hb3
    rw [← G6.out] at y6
    go_wp2_with fail
    have HLB2 := Lib.hid ((HLB.out.belowT BF2.out).belowT BW.out)
    have HMB2 := Lib.hid ((HMB.out.belowT BF2.out).belowT BW.out)
    have XG := Lib.hid (XF2.out.below BW.out)
    have YG := Lib.hid (YF2.out.below BW.out)
    clear x0 x1 x2 x3 x4 x5 x6 y0 y1 y2 y3 y4 y5 y6
    generalize w3 = W3 at *
    go_loopg [8] bl1.length (fun gk v8 wr => EiRel W3 W3.heap.size bl1 bl2 gk v8 wr)
    case atStart => exact ⟨0, rfl, by omega, by omega, by unfold Hid; simp, Below.refl _ _⟩
    case round =>
     obtain ⟨j, rfl, hjl, hjg, HQ2, HRJ⟩ := hrel
     have z6 : wr.cell? ⟨b1, 6, none⟩ = some (.slice A3 bl1.length c3) := (XG.out.below HRJ.out).cell 6
     by_cases hje : j = bl1.length
     ·have HFB := Lib.hid (show bl1 = bl2 by
       have := HQ2.out
       rw [hje, List.take_length, G6.out, List.take_length] at this
       exact this)
      have HFIN := Lib.hid (show l.take (i + 1) = m.take (i + 1) by
       rw [List.take_add_one, List.take_add_one, HQ.out, HX.out, HY.out, HTE.out, HFB.out])
      subst hje
      go_wp2_with fail
      go_roundg (gO - 1)
      case rel => exact ⟨i + 1, by simp, by omega, by omega, HFIN.out, HR3.out.trans (HRJ.out.mono HR3.out.size)⟩
      case measure => omega
     ·have hjlt : j < bl1.length := by omega
      have hjlt1 : (j : Int) < (bl1.length : Int) := by omega
      obtain ⟨x, hx⟩ : ∃ x, bl1[j]? = some x := ⟨bl1[j], List.getElem?_eq_getElem hjlt⟩
      obtain ⟨y, hy⟩ : ∃ y, bl2[j]? = some y := ⟨bl2[j]'(by rw [← G6.out]; exact hjlt), List.getElem?_eq_getElem (by rw [← G6.out]; exact hjlt)⟩
      obtain ⟨bb3, o3, A4, c4, hA3, hc3, q0, LX⟩ := rbl_cells (HLB2.out.belowT HRJ.out) hx
      obtain ⟨bb4, o4, B4, d4, hB3, hd3, r0, LY⟩ := rbl_cells (HMB2.out.belowT HRJ.out) hy
      subst hA3
      subst hB3
      have hjlt2 : (j : Int) < (bl2.length : Int) := by rw [← G6.out]; exact hjlt1
      have hsx := nIs_mem (List.mem_of_getElem? hx)
      have hs1 : nIs x < n := by have := HNB.out; have := HSM.out; omega
      have hs2 : nIs x ≤ 1000000000 := by have := HNB.out; have := HBIG.out; omega
      have htx := tdBl_mem HTB.out (List.mem_of_getElem? hx)
      have HCALL := Lib.hid (fun w' (hb : Below wr.heap.size wr w') => IH.out x y w' _ _ _ _ hs1 hs2 htx (LX.belowT hb) (LY.belowT hb))
      have HX2 := Lib.hid hx
      have HY2 := Lib.hid hy
      have XJ := Lib.hid (XG.out.below HRJ.out)
      have YJ := Lib.hid (YG.out.below HRJ.out)
      obtain ⟨eb, heb⟩ : ∃ b, eqIs x y = b := ⟨_, rfl⟩
      have HEB := Lib.hid heb
      have Q0 := Lib.hid q0
      have R0 := Lib.hid r0
      clear hx hy LX LY hsx hs1 hs2 htx heb q0 r0
      go_wp2_with fail
      refine region_phi (n := 97) (Wd [(false, .pointer (some ⟨b1, 6, none⟩)),
        (false, .slice (some ⟨bb3, o3, none⟩) bl1.length c3),
        (false, .int .i64 (j : Int)),
        (false, .pointer (some ⟨bb3, o3 + j, none⟩)),
        (false, .slice A4 x.length c4),
        (false, .pointer (some ⟨b2, 6, none⟩)),
        (false, .slice (some ⟨bb4, o4, none⟩) bl2.length d3),
        (false, .int .i64 (j : Int)),
        (false, .pointer (some ⟨bb4, o4 + j, none⟩)),
        (false, .slice B4 y.length d4),
        (false, .bool eb),
        (false, .bool (!eb))]) (by kernel_rfl) (by kernel_rfl) rfl (fun _ _ _ _ h _ => h) (allOps_spec ?_) ?_
      ·refine ⟨?_, ?_, ?_, ?_, ?_, ?_, ?_, ?_, ?_, ?_, ?_, ?_, trivial⟩
       ·intro a w' hb hp
        have b6 : a.tmps[6]?.getD undef = .pointer (some ⟨b1, 0, none⟩) := hb.at 6 (by kernel_rfl)
        exact wd_run rfl rfl (by simp [execOp, go_sem, Act.eval, b6])
       ·intro a w' hb hp
        have kc : w'.cell? ⟨b1, 6, none⟩ = some (.slice (some ⟨bb3, o3, none⟩) bl1.length c3) := (XJ.out.below hb.ext).cell 6
        exact wd_run rfl rfl (by simp [execOp, go_sem, Act.eval, wd_get (hp ⟨0, .data⟩ (by simp) rfl _ rfl) rfl rfl, kc])
       ·intro a w' hb hp
        have b8 : a.tmps[8]?.getD undef = .int .i64 (j : Int) := hb.at 8 (by kernel_rfl)
        exact wd_run rfl rfl (by simp [execOp, go_sem, Act.eval, b8])
       ·exact fun a w' hb hp => wd_run rfl rfl (by simp [execOp, go_sem, Act.eval, wd_get (hp ⟨1, .data⟩ (by simp) rfl _ rfl) rfl rfl, wd_get (hp ⟨2, .data⟩ (by simp) rfl _ rfl) rfl rfl, hjlt1])
       ·intro a w' hb hp
        have kc := (hb.ext.cell (World.block_lt_of_cell? _ _ Q0.out)).trans Q0.out
        exact wd_run rfl rfl (by simp [execOp, go_sem, Act.eval, wd_get (hp ⟨3, .data⟩ (by simp) rfl _ rfl) rfl rfl, kc])
       ·intro a w' hb hp
        have b7 : a.tmps[7]?.getD undef = .pointer (some ⟨b2, 0, none⟩) := hb.at 7 (by kernel_rfl)
        exact wd_run rfl rfl (by simp [execOp, go_sem, Act.eval, b7])
       ·intro a w' hb hp
        have kc : w'.cell? ⟨b2, 6, none⟩ = some (.slice (some ⟨bb4, o4, none⟩) bl2.length d3) := (YJ.out.below hb.ext).cell 6
        exact wd_run rfl rfl (by simp [execOp, go_sem, Act.eval, wd_get (hp ⟨5, .data⟩ (by simp) rfl _ rfl) rfl rfl, kc])
       ·intro a w' hb hp
        have b8 : a.tmps[8]?.getD undef = .int .i64 (j : Int) := hb.at 8 (by kernel_rfl)
        exact wd_run rfl rfl (by simp [execOp, go_sem, Act.eval, b8])
       ·exact fun a w' hb hp => wd_run rfl rfl (by simp [execOp, go_sem, Act.eval, wd_get (hp ⟨6, .data⟩ (by simp) rfl _ rfl) rfl rfl, wd_get (hp ⟨7, .data⟩ (by simp) rfl _ rfl) rfl rfl, hjlt2])
       ·intro a w' hb hp
        have kc := (hb.ext.cell (World.block_lt_of_cell? _ _ R0.out)).trans R0.out
        exact wd_run rfl rfl (by simp [execOp, go_sem, Act.eval, wd_get (hp ⟨8, .data⟩ (by simp) rfl _ rfl) rfl rfl, kc])
       ·intro a w' hb hp
        refine step_call (f := 45) (args := #[.slice A4 x.length c4, .slice B4 y.length d4]) rfl (by simp [go_sem, wd_get (hp ⟨4, .data⟩ (by simp) rfl _ rfl) rfl rfl, wd_get (hp ⟨9, .data⟩ (by simp) rfl _ rfl) rfl rfl]) ?_
        refine (HCALL.out w' hb.ext).mono ?_
        rintro e w5 ⟨rfl, hb5⟩
        exact ⟨_, rfl, hb5, wd_mk rfl fun _ => by rw [HEB.out]⟩
       ·exact fun a w' hb hp => wd_run rfl rfl (by simp [execOp, go_sem, Act.eval, wd_get (hp ⟨10, .data⟩ (by simp) rfl _ rfl) rfl rfl])
      ·intro vs w2 hext hall
       have HEXT := Lib.hid hext
       have e11 : vs 11 = .bool (!eb) := hall 11 (by decide) rfl
       clear hext hall
       simp only [putAll, Act.put, List.setIfInBounds_toArray, List.set_cons_zero, List.set_cons_succ, Nat.zero_add, Nat.reduceAdd, e11]
       clear e11
       cases eb with
       | false =>
        have HF := Lib.hid (HNE.out (by
         intro e
         injection e with e0 e1 e2 e3 e4 e5 e6
         have h1 := HX2.out
         rw [e6, HY2.out] at h1
         have h2 := Option.some.inj h1
         have h3 := HEB.out
         rw [← h2, eqIs_iff.2 rfl] at h3
         cases h3))
        go_wp2_with fail
        go_ret
        exact ⟨by rw [HF.out]; rfl, HR3.out.trans ((HRJ.out.trans (HEXT.out.mono HRJ.out.size)).mono HR3.out.size)⟩
       | true =>
        have HF := Lib.hid (show bl1.take (j + 1) = bl2.take (j + 1) by
         rw [List.take_add_one, List.take_add_one, HQ2.out, HX2.out, HY2.out, eqIs_iff.1 HEB.out])
        go_wp2_with fail
        go_roundg (gk - 1)
        case rel => exact ⟨j + 1, by simp, by omega, by omega, HF.out, HRJ.out.trans (HEXT.out.mono HRJ.out.size)⟩
        case measure => omega
end Go.Proofs.YtekpefcggikcbaaGreatDoor
