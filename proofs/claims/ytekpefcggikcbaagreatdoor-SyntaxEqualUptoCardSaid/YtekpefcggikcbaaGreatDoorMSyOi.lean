/- Layer 10: the contract of the laws' ownItems. -/
import Derived.Test.YtekpefcggikcbaaGreatDoorMSynL
import Derived.Test.YtekpefcggikcbaaGreatDoorMRegInv
import Derived.Test.YtekpefcggikcbaaGreatDoorMPtBk
import Derived.Test.YtekpefcggikcbaaGreatDoorEqA
import Derived.Test.YtekpefcggikcbaaGreatDoorMEqG
namespace Go.Proofs.YtekpefcggikcbaaGreatDoor
/- Layer 10: the contract of the laws' ownItems. -/
open Go.RowKit

theorem rit_cells {w : World} {S : Nat → Prop} {b o : Nat} {l : List It} (hc : ∀ (i : Nat) d, (dIs l)[i]? = some d → ∃ u, w.cell? ⟨b, o + i, none⟩ = some u ∧ Lir w S u d) {i : Nat} {k tk : Int} {fr nm al : Bs} {to : List Bs} {bl : List (List It)} (hi : l[i]? = some (.mk k fr to nm al tk bl)) :
    ∃ A1 c1 A2 c2, w.cell? ⟨b, o + i * 7, none⟩ = some (.int .i64 k) ∧ w.cell? ⟨b, o + i * 7 + 1, none⟩ = some (.string (ofL fr)) ∧ w.cell? ⟨b, o + i * 7 + 2, none⟩ = some (.slice A1 to.length c1) ∧ w.cell? ⟨b, o + i * 7 + 3, none⟩ = some (.string (ofL nm)) ∧ w.cell? ⟨b, o + i * 7 + 4, none⟩ = some (.string (ofL al)) ∧ w.cell? ⟨b, o + i * 7 + 5, none⟩ = some (.int .i64 tk) ∧ w.cell? ⟨b, o + i * 7 + 6, none⟩ = some (.slice A2 bl.length c2) ∧ Lies w S (.slice A1 to.length c1) (dL to) ∧ Lir w S (.slice A2 bl.length c2) (.s 1 (dBl bl)) := by
  rw [dIs_map] at hc
  have key := fun (j : Nat) (d : D) (hj : (dIt (.mk k fr to nm al tk bl))[j]? = some d) => lir_row dIt_len hc hi j d hj
  obtain ⟨u0, h0, g0⟩ := key 0 _ rfl
  obtain ⟨u1, h1, g1⟩ := key 1 _ rfl
  obtain ⟨u2, h2, g2⟩ := key 2 _ rfl
  obtain ⟨u3, h3, g3⟩ := key 3 _ rfl
  obtain ⟨u4, h4, g4⟩ := key 4 _ rfl
  obtain ⟨u5, h5, g5⟩ := key 5 _ rfl
  obtain ⟨u6, h6, g6⟩ := key 6 _ rfl
  have e0 := g0.cell_eq
  have e1 := g1.cell_eq
  have e3 := g3.cell_eq
  have e4 := g4.cell_eq
  have e5 := g5.cell_eq
  subst e0 e1 e3 e4 e5
  obtain ⟨A1, n1, c1, rfl, hn1⟩ := Lir.slc (show Lir w S u2 (.s 1 (to.flatMap fun x => [dS x])) from g2)
  obtain ⟨A2, n2, c2, rfl, hn2⟩ := Lir.slc (show Lir w S u6 (.s 1 (dBl bl)) from g6)
  rw [fm1, List.length_map] at hn1
  rw [dBl_map, fm1, List.length_map] at hn2
  obtain rfl : n1 = to.length := by omega
  obtain rfl : n2 = bl.length := by omega
  exact ⟨A1, c1, A2, c2, h0, h1, h2, h3, h4, h5, h6, Lir.strs g2, g6⟩
theorem rbl_cells {w : World} {S : Nat → Prop} {A : Option Addr} {c : Nat} {bl : List (List It)} (h : Lir w S (.slice A bl.length c) (.s 1 (dBl bl))) {j : Nat} {b : List It} (hj : bl[j]? = some b) :
    ∃ bb o A1 c1, A = some ⟨bb, o, none⟩ ∧ bl.length ≤ c ∧ w.cell? ⟨bb, o + j, none⟩ = some (.slice A1 b.length c1) ∧ Lir w S (.slice A1 b.length c1) (dB b) := by
  have h0 : dBl bl ≠ [] := by
    rw [dBl_map, fm1]
    intro e
    have hl := List.map_eq_nil_iff.1 e
    rw [hl] at hj
    simp at hj
  obtain ⟨bb, o, n, c', he, hn, hnc, -, -, hc⟩ := h.cell h0
  simp only [Value.slice.injEq] at he
  obtain ⟨rfl, rfl, rfl⟩ := he
  obtain ⟨u, hu, hl⟩ := hc j (dB b) (by rw [dBl_map, fm1, List.getElem?_map, hj]; rfl)
  obtain ⟨A1, n1, c1, rfl, hn1⟩ := Lir.slc (show Lir w S u (.s 7 (dIs b)) from hl)
  rw [dIs_map, flat_len dIt_len] at hn1
  obtain rfl : n1 = b.length := by omega
  exact ⟨bb, o, A1, c1, rfl, hnc, hu, hl⟩
def OwPost (w : World) (N : Nat) (d : D) (e : Ending) (w' : World) : Prop := ∃ v, e = .returned v ∧ Lies w' (Nw N w.heap.size) v d ∧ Below w.heap.size w w'
def OwRel (N : Nat) (w : World) (l : List It) (gk : Nat) (v3 v11 : Value) (wr : World) : Prop :=
  ∃ k : Nat, k ≤ l.length ∧ l.length ≤ gk + k ∧ v11 = .int .i64 (k : Int) ∧ Hid (Blo N wr w.heap.size 70 7 v3 k ((l.take k).flatMap dIt)) ∧ Hid (Below w.heap.size w wr)
def OxRel (N x : Nat) (W1 : World) (a0 a1 a2 a3 a4 a5 : Value) (bl : List (List It)) (gk : Nat) (v31 : Value) (wr : World) : Prop :=
  ∃ (j : Nat) (A : Option Addr) (c : Nat), j ≤ bl.length ∧ bl.length ≤ gk + j ∧ v31 = .int .i64 (j : Int) ∧ Hid (Bx wr x 70 #[a0, a1, a2, a3, a4, a5, .slice A j c]) ∧ Hid (Blo N wr (x + 1) 57 1 (.slice A j c) j ((bl.take j).flatMap fun b => [dB b])) ∧ Hid (Below x W1 wr)
theorem info_Blk : (Tryz.prog.info? 57).map (fun i => (i.zero, i.size, i.bytes)) = some (some (.slice none 0 0), 1, 24) := by kernel_rfl
theorem info_Itm : (Tryz.prog.info? 70).map (fun i => (i.zero, i.size, i.bytes)) = some (some (.agg #[.int .i64 0, .string ⟨#[]⟩, .slice none 0 0, .string ⟨#[]⟩, .string ⟨#[]⟩, .int .i64 0, .slice none 0 0]), 7, 112) := by kernel_rfl
set_option maxRecDepth 20000 in
set_option maxHeartbeats 8000000 in
theorem ownItems_any : ∀ (n : Nat) (l : List It) (w : World) (v : Value) (N : Nat), nIs l < n → nIs l ≤ 1000000000 → N ≤ w.heap.size → Lir w (fun k => k < N) v (dB l) → Calls Tryz.prog 51 #[v] w (OwPost w N (dB l)) := by
  intro n
  induction n with
  | zero => intro l w v N h; omega
  | succ n ih =>
    intro l w v N hn hbig hN hL
    obtain ⟨A, n1, c, rfl, hn1⟩ := Lir.slc (show Lir w (fun k => k < N) v (.s 7 (dIs l)) from hL)
    rw [dIs_map, flat_len dIt_len] at hn1
    obtain rfl : n1 = l.length := by omega
    have hll := nIs_len l
    have IH := Lib.hid ih
    have HL := Lib.hid hL
    have HNN := Lib.hid hN
    have hlen : l.length ≤ 1000000000 := by omega
    have HBIG := Lib.hid hbig
    have HSM := Lib.hid hn
    clear ih hL hn1 hN hbig hll hn
    go_enter Tryz.func51, Tryz.ntmps51
    go_wp2_with fail
    go_loopg [3, 5, 6, 8, 11] l.length (fun gk v3 _ _ _ v11 wr => OwRel N w l gk v3 v11 wr)
    case atStart => exact ⟨0, by omega, by omega, rfl, Blo.nil _ _ _ _ _, Below.refl _ _⟩
    case round =>
      obtain ⟨k, hk, hkg, rfl, HO, HB⟩ := hrel
      obtain ⟨A3, c3, rfl⟩ := HO.out.shape
      have hsz := HB.out.size
      have HLr := Lib.hid (HL.out.belowT HB.out)
      by_cases hlt : k < l.length
      · obtain ⟨it, hit⟩ : ∃ x, l[k]? = some x := ⟨_, List.getElem?_eq_getElem hlt⟩
        obtain ⟨kd, fr, to, nm, al, tk, bl⟩ := it
        obtain ⟨bb, o, n2, c2, he, -, hnc, -, -, hcell⟩ := HLr.out.cell (l := dIs l) (z := 7) (by
          rw [dIs_map]; intro e0
          have := congrArg List.length e0
          rw [flat_len dIt_len, List.length_nil] at this; omega)
        simp only [Value.slice.injEq] at he
        obtain ⟨rfl, rfl, rfl⟩ := he
        obtain ⟨A1, c1, A2, c2, u0, u1, u2, u3, u4, u5, u6, LT, LB⟩ := rit_cells hcell hit
        have HTAKE := Lib.hid (show (l.take (k + 1)).flatMap dIt = (l.take k).flatMap dIt ++ dIt (.mk kd fr to nm al tk bl) by
          rw [List.take_succ_eq_append_getElem hlt, List.flatMap_append, List.flatMap_singleton, (List.getElem?_eq_some_iff.1 hit).2])
        have hnb : nBl bl + 1 < nIs l := by have := nIt_mem (List.mem_of_getElem? hit); rw [nIt] at this; exact this
        have HNB := Lib.hid hnb
        have hbl : bl.length ≤ 1000000000 := by have := nBl_len bl; have := HBIG.out; omega
        have HLT := Lib.hid LT
        have HLB := Lib.hid LB
        clear hcell hit hnb LT LB
        go_wp2_with fail
        obtain ⟨W1, hW1⟩ : ∃ W, (wr.alloc (.cells #[.int .i64 kd, .string (ofL fr), .slice A1 to.length c1, .string (ofL nm), .string (ofL al), .int .i64 tk, .slice A2 bl.length c2] 144)).alloc (.cells #[.int .i64 kd, .string (ofL fr), .slice A1 to.length c1, .string (ofL nm), .string (ofL al), .int .i64 tk, .slice none 0 0] 70) = W := ⟨_, rfl⟩
        have HW1 := Lib.hid hW1
        have HB1 := Lib.hid (show Below wr.heap.size wr W1 by rw [← hW1]; exact ((Below.refl _ _).alloc (Nat.le_refl _) _).alloc (by simp) _)
        have X1 := Lib.hid (show Bx W1 (wr.heap.size + 1) 70 #[.int .i64 kd, .string (ofL fr), .slice A1 to.length c1, .string (ofL nm), .string (ofL al), .int .i64 tk, .slice none 0 0] by rw [← hW1]; exact Bx.new2 (size_alloc _ _))
        rw [HW1.out]
        clear hW1 u0 u1 u2 u3 u4 u5 u6
        generalize gk = gO at *
        generalize wr = WR at *
        go_loopg [8, 31] bl.length (fun gk _ v31 wr2 => OxRel N (WR.heap.size + 1) W1 (.int .i64 kd) (.string (ofL fr)) (.slice A1 to.length c1) (.string (ofL nm)) (.string (ofL al)) (.int .i64 tk) bl gk v31 wr2)
        case atStart => exact ⟨0, none, 0, by omega, by omega, rfl, X1, Blo.nil _ _ _ _ _, Below.refl _ _⟩
        case round =>
          obtain ⟨j, A5, c5, hj, hjg, rfl, HX, HR, HB2⟩ := hrel
          have HB3 := Lib.hid (HB1.out.trans (HB2.out.mono (Nat.le_succ _)))
          have hsz2 := HX.out.lt
          by_cases hjl : j < bl.length
          · obtain ⟨b, hb⟩ : ∃ x, bl[j]? = some x := ⟨_, List.getElem?_eq_getElem hjl⟩
            obtain ⟨bb2, o2, A6, c6, rfl, hc2, q0, LBB⟩ := rbl_cells (HLB.out.belowT HB3.out) hb
            have hsb := nIs_mem (List.mem_of_getElem? hb)
            have HTK := Lib.hid (show (bl.take (j + 1)).flatMap (fun b => [dB b]) = (bl.take j).flatMap (fun b => [dB b]) ++ [dB b] by
              rw [List.take_succ_eq_append_getElem hjl, List.flatMap_append, List.flatMap_singleton, (List.getElem?_eq_some_iff.1 hb).2])
            have hs1 : nIs b < n := by have := HNB.out; have := HSM.out; omega
            have hs2 : nIs b ≤ 1000000000 := by have := HNB.out; have := HBIG.out; omega
            have HS1 := Lib.hid hs1
            have HS2 := Lib.hid hs2
            have HLBB := Lib.hid LBB
            have HNX := Lib.hid (show N ≤ WR.heap.size + 1 by have := HNN.out; omega)
            have hj24 := Lib.hid (show (j + 1) * 24 ≤ 140737488355328 by omega)
            clear hb LBB hsb hs1 hs2
            go_wp2_with fail
            have HST := Lib.hid (fun vs => OwI.start (vs := vs) (k := 6) (bv := .slice A6 b.length c6) (d := dB b) HX.out HR.out)
            refine region_inv (n := 49) (OwI wr N (WR.heap.size + 1) 70 6 #[.int .i64 kd, .string (ofL fr), .slice A1 to.length c1, .string (ofL nm), .string (ofL al), .int .i64 tk, .slice A5 j c5] (.slice A5 j c5) 57 j ((bl.take j).flatMap fun b => [dB b]) (.slice A6 b.length c6) (dB b)) (by kernel_rfl) (by kernel_rfl) rfl ?_ (allOps_spec ?_) ?_
            · intro vs
              exact HST.out vs
            · clear HST
              refine ⟨?_, ?_, ?_, ?_, ?_, ?_, ?_, ?_, trivial⟩
              · intro L vs a w2 hB hL hd hI
                have b3 : a.tmps[6]?.getD undef = .pointer (some ⟨WR.heap.size + 1, 0, none⟩) := hB.at 6 (by kernel_rfl)
                exact stepI_run (v := .pointer (some ⟨WR.heap.size + 1, 6, none⟩)) rfl (by simp [execOp, go_sem, Act.eval, b3]) hI.t0
              · intro L vs a w2 hB hL hd hI
                have b0 : a.tmps[35]?.getD undef = .pointer (some ⟨WR.heap.size + 1, 6, none⟩) := (hB.val 0 (hd ⟨0, .data⟩ (by simp) rfl) 35 rfl).trans (hI.p0 (hd ⟨0, .data⟩ (by simp) rfl))
                have h7 : L 7 = false := hB.wait 5 7 (hB.wait 1 5 hL (by kernel_rfl)) (by kernel_rfl)
                have hx := hI.bX
                rw [h7, if_neg Bool.false_ne_true] at hx
                have c6 : w2.cell? ⟨WR.heap.size + 1, 6, none⟩ = some (.slice A5 j c5) := hx.cell 6
                exact stepI_run (v := .slice A5 j c5) rfl (by simp [execOp, go_sem, Act.eval, b0, c6]) hI.t1
              · intro L vs a w2 hB hL hd hI
                have bp : a.tmps[8]?.getD undef = .slice A6 b.length c6 := hB.at 8 (by kernel_rfl)
                exact stepI_run (v := .slice A6 b.length c6) rfl (by simp [execOp, go_sem, Act.eval, bp]) hI.t2
              · intro L vs a w2 hB hL hd hI
                have b2 : a.tmps[37]?.getD undef = .slice A6 b.length c6 := (hB.val 2 (hd ⟨2, .data⟩ (by simp) rfl) 37 rfl).trans (hI.p2 (hd ⟨2, .data⟩ (by simp) rfl))
                have h4 : L 4 = false := hB.wait 3 4 hL (by kernel_rfl)
                have h5 : L 5 = false := hB.wait 4 5 h4 (by kernel_rfl)
                have h7 : L 7 = false := hB.wait 5 7 h5 (by kernel_rfl)
                refine stepI_call (f := 51) (args := #[.slice A6 b.length c6]) rfl (by simp [go_sem, b2]) ?_
                have hz2 := hI.sz
                refine (IH.out b w2 _ N HS1.out HS2.out (by have := HNX.out; omega) (HLBB.out.keep (Nat.le_trans (Nat.le_refl _) hI.bel.size) fun k _ hk => hI.bel.block k (by have := HNX.out; have hk : k < N := hk; omega))).mono ?_
                rintro e w3 ⟨v, rfl, LV, hb3⟩
                obtain ⟨A7, n7, c7, rfl, -⟩ := Lies.slc (show Lies w3 _ v (.s 7 (dIs b)) from LV)
                exact ⟨_, rfl, hI.t3 h4 h5 h7 HNX.out LV hb3⟩
              · intro L vs a w2 hB hL hd hI
                have h3 : L 3 = true := hd ⟨3, .data⟩ (by simp) rfl
                have h5 : L 5 = false := hB.wait 4 5 hL (by kernel_rfl)
                have h7 : L 7 = false := hB.wait 5 7 h5 (by kernel_rfl)
                obtain ⟨A7, n7, c7, h3v, hl3⟩ := hI.val h3 hL
                rw [h3v] at hl3
                have b28 : a.tmps[38]?.getD undef = .slice A7 n7 c7 := (hB.val 3 h3 38 rfl).trans h3v
                exact stepI_run (v := .slice (some ⟨w2.heap.size, 0, none⟩) 1 1) (w' := w2.alloc (.cells #[.slice A7 n7 c7] 57)) rfl (by simp [execOp, go_sem, Act.eval, b28]) (hI.t4 h5 h7 hl3)
              · intro L vs a w2 hB hL hd hI
                have h1 : L 1 = true := hd ⟨1, .data⟩ (by simp) rfl
                have h4 : L 4 = true := hd ⟨4, .data⟩ (by simp) rfl
                have h7 : L 7 = false := hB.wait 5 7 hL (by kernel_rfl)
                have b26 : a.tmps[36]?.getD undef = .slice A5 j c5 := (hB.val 1 h1 36 rfl).trans (hI.p1 h1)
                have b29 : a.tmps[39]?.getD undef = vs 4 := hB.val 4 h4 39 rfl
                exact ostepI_push hI Tryz.underlying68 info_Blk rfl rfl rfl b26 b29 h4 hL h7 hj24.out (by decide)
              · intro L vs a w2 hB hL hd hI
                have b3 : a.tmps[6]?.getD undef = .pointer (some ⟨WR.heap.size + 1, 0, none⟩) := hB.at 6 (by kernel_rfl)
                exact stepI_run (v := .pointer (some ⟨WR.heap.size + 1, 6, none⟩)) rfl (by simp [execOp, go_sem, Act.eval, b3]) hI.t6
              · intro L vs a w2 hB hL hd hI
                have h5 : L 5 = true := hd ⟨5, .data⟩ (by simp) rfl
                have h6 : L 6 = true := hd ⟨6, .data⟩ (by simp) rfl
                have h4 : L 4 = true := by cases h : L 4 with | true => rfl | false => exact absurd (hB.wait 4 5 h (by kernel_rfl)) (by simp [h5])
                obtain ⟨hh, cap, h5v, -⟩ := hI.don h5
                have b30 : a.tmps[40]?.getD undef = .slice (some ⟨hh, 0, none⟩) (j + 1) cap := (hB.val 5 h5 40 rfl).trans h5v
                have b31 : a.tmps[41]?.getD undef = .pointer (some ⟨WR.heap.size + 1, 6, none⟩) := (hB.val 6 h6 41 rfl).trans (hI.p6 h6)
                have hx := hI.bX
                rw [hL, if_neg Bool.false_ne_true] at hx
                have c6 : w2.cell? ⟨WR.heap.size + 1, 6, none⟩ = some (.slice A5 j c5) := hx.cell 6
                have f6 := hx.free 6
                have hfin := hI.t7 h4 h5 hL HNX.out
                rw [h5v] at hfin
                exact stepI_skip (w' := w2.setCell ⟨WR.heap.size + 1, 6, none⟩ (.slice (some ⟨hh, 0, none⟩) (j + 1) cap)) rfl (by simp [execOp, go_sem, Act.eval, b30, b31, c6, f6]) hfin
            · intro L vs w2 hall hI
              obtain ⟨BF, hh, cap, h5, XF, DF⟩ := hI.fin (fun i hi => hall i hi)
              rw [h5] at XF DF
              clear hI hall HST
              simp only [putAll, Act.put, List.setIfInBounds_toArray, List.set_cons_zero, List.set_cons_succ, Nat.zero_add, Nat.reduceAdd, h5]
              clear h5
              have XF2 := Lib.hid XF
              have DF2 := Lib.hid DF
              have BF2 := Lib.hid BF
              clear XF DF BF
              go_wp2_with fail
              go_roundg (gk - 1)
              case rel => exact ⟨j + 1, _, _, by omega, by omega, by simp, XF2, by unfold Hid; rw [HTK.out]; exact DF2.out, HB2.out.trans BF2.out⟩
              case measure => omega
          · have hjj : j = bl.length := by omega
            subst hjj
            have HTK := Lib.hid (show (bl.take bl.length).flatMap (fun b => [dB b]) = dBl bl by rw [dBl_map, List.take_of_length_le (Nat.le_refl _)])
            obtain ⟨x0, x1, x2, x3, x4, x5, x6⟩ := HX.out.k7
            have HO2 := Lib.hid (HO.out.below HB3.out)
            have hown : ∀ q, (Value.slice A3 k c3).ownBlock = some q → w.heap.size ≤ q ∧ q < WR.heap.size := fun q hq => ⟨HO.out.ge hq, HO.out.lt hq⟩
            have HLL := Lib.hid (show LiesL wr (fun q => Nw N w.heap.size q ∧ (Value.slice A3 k c3).ownBlock ≠ some q) [.int .i64 kd, .string (ofL fr), .slice A1 to.length c1, .string (ofL nm), .string (ofL al), .int .i64 tk, .slice A5 bl.length c5] (dIt (.mk kd fr to nm al tk bl)) by
              have hN := HNN.out
              have l2 : Lies wr (fun q => Nw N w.heap.size q ∧ (Value.slice A3 k c3).ownBlock ≠ some q) (.slice A1 to.length c1) (dL to) := (HLT.out.belowT HB3.out).mono fun q _ hq => ⟨.inl hq, fun e => by have h1 := hown q e; have h2 : q < N := hq; omega⟩
              have l6 : Lies wr (fun q => Nw N w.heap.size q ∧ (Value.slice A3 k c3).ownBlock ≠ some q) (.slice A5 bl.length c5) (.s 1 (dBl bl)) := by
                have := HR.out.lies
                rw [HTK.out] at this
                exact this.mono fun q _ hq => ⟨hq.elim .inl fun h => .inr (by omega), fun e => by have h1 := hown q e; rcases hq with h | h <;> omega⟩
              exact LiesL.cons (.c _ rfl) (LiesL.cons (.c _ rfl) (LiesL.cons l2 (LiesL.cons (.c _ rfl) (LiesL.cons (.c _ rfl) (LiesL.cons (.c _ rfl) (LiesL.cons l6 (LiesL.nil _ _))))))))
            have hk120 : (k + 1) * 112 ≤ 140737488355328 := by omega
            have hszw : w.heap.size ≤ wr.heap.size := by omega
            clear hown
            go_wp2_with (at_builtin; refine appO rfl (.tmp 43) (.tmp 45) 57 rfl 70 _ 7 112 info_Itm rfl (by decide) Tryz.underlying57 N w.heap.size (.slice A3 k c3) k _ (by rfl) HO2.out #[.int .i64 kd, .string (ofL fr), .slice A1 to.length c1, .string (ofL nm), .string (ofL al), .int .i64 tk, .slice A5 bl.length c5] (dIt (.mk kd fr to nm al tk bl)) rfl (by rfl) HLL.out hk120 hszw (by decide) ?_
                         intro v7 w7 hB7 hg7
                         have HB7 := Lib.hid hB7
                         have HG7 := Lib.hid (HO2.out.grown hg7 hszw)
                         clear hB7 hg7)
            go_roundg (gO - 1)
            case rel => exact ⟨k + 1, by omega, by omega, by simp, by unfold Hid; rw [HTAKE.out]; exact HB7.out, (HB.out.trans (HB3.out.mono hsz)).trans HG7.out⟩
            case measure => omega
      · have HF := Lib.hid (show (l.take k).flatMap dIt = dIs l by rw [dIs_map, List.take_of_length_le (by omega)])
        go_wp2_with fail
        go_ret
        exact ⟨_, rfl, by have := HO.out.lies; rw [HF.out] at this; exact this, HB.out⟩
/- Layer 10: the contracts of sameMessage, sameProtocol and Equal, at protocols whose items have no blocks. -/
open Go.RowKit

def msq (x y : Ms) : Bool := decide (x.nm = y.nm) && (decide (x.fs = y.fs) && decide (x.wh = y.wh))
def GM (m : Ms) : Prop := m.fs.length ≤ 1000000000 ∧ m.wh.length ≤ 1000000000
theorem ent_sameMessage : ∀ args w, (callFunc 103 args).run Tryz.prog w = .ok (.enter 103 args) w := enters_of Tryz.func103 (by kernel_rfl) rfl
theorem ent_sameProtocol : ∀ args w, (callFunc 59 args).run Tryz.prog w = .ok (.enter 59 args) w := enters_of Tryz.func59 (by kernel_rfl) rfl
section
variable {w w' : World} {S T : Nat → Prop}
set_option maxHeartbeats 8000000 in
theorem sameMessage_q : IsQ2 103 msq (fun w x v => RMs S w x v ∧ GM x) := by
 refine ⟨ent_sameMessage, ?_⟩
 rintro w ⟨nm1, fs1, wh1⟩ v ⟨nm2, fs2, wh2⟩ u ⟨⟨v1, v3, rfl, L1, L3⟩, g1, g2⟩ ⟨⟨v2, v4, rfl, L2, L4⟩, -⟩
 have HG1 := Lib.hid (show fs1.length ≤ 1000000000 from g1)
 have HG2 := Lib.hid (show wh1.length ≤ 1000000000 from g2)
 clear g1 g2
 obtain ⟨A1, n1, c1, rfl, -⟩ := L1.slc
 obtain ⟨A2, n2, c2, rfl, -⟩ := L2.slc
 obtain ⟨A3, n3, c3, rfl, -⟩ := L3.slc
 obtain ⟨A4, n4, c4, rfl, -⟩ := L4.slc
 replace L1 : Lies w S (.slice A1 n1 c1) (.s 4 (fs1.flatMap dF)) := L1
 replace L2 : Lies w S (.slice A2 n2 c2) (.s 4 (fs2.flatMap dF)) := L2
 replace L3 : Lies w S (.slice A3 n3 c3) (.s 9 (wh1.flatMap dA)) := L3
 replace L4 : Lies w S (.slice A4 n4 c4) (.s 9 (wh2.flatMap dA)) := L4
 obtain ⟨W0, hW0⟩ : ∃ W, (w.alloc (.cells #[.string (ofL nm1), .slice A1 n1 c1, .slice A3 n3 c3] 74)).alloc (.cells #[.string (ofL nm2), .slice A2 n2 c2, .slice A4 n4 c4] 74) = W := ⟨_, rfl⟩
 have B1 := Lib.hid (show Below w.heap.size w W0 by rw [← hW0]; exact ((Below.refl _ w).alloc (Nat.le_refl _) _).alloc (by simp) _)
 have X1 := Lib.hid (show Bx W0 w.heap.size 74 #[.string (ofL nm1), .slice A1 n1 c1, .slice A3 n3 c3] by rw [← hW0]; exact (Bx.new w _ _).alloc _)
 have X2 := Lib.hid (show Bx W0 (w.heap.size + 1) 74 #[.string (ofL nm2), .slice A2 n2 c2, .slice A4 n4 c4] by rw [← hW0]; exact Bx.new2 (size_alloc _ _))
 have HW0 := Lib.hid hW0
 clear hW0
 obtain ⟨p0, p1, p2⟩ := X1.out.k3
 obtain ⟨q0, q1, q2⟩ := X2.out.k3
 have N0 := Lib.hid (L1.belowT B1.out)
 have N1 := Lib.hid (L2.belowT B1.out)
 have N2 := Lib.hid (L3.belowT B1.out)
 have N3 := Lib.hid (L4.belowT B1.out)
 clear L1 L2 L3 L4
 have hs1 : (ofL nm1).toList = nm1 := ofL_toList nm1
 have hs2 : (ofL nm2).toList = nm2 := ofL_toList nm2
 by_cases g0 : nm1 = nm2
 rotate_left
 ·have H := Lib.hid (show false = msq ⟨nm1, fs1, wh1⟩ ⟨nm2, fs2, wh2⟩ by simp [msq, g0])
  have e0 : (nm1 == nm2) = false := by rw [beq_eq_false_iff_ne]; exact g0
  clear g0
  go_enter Tryz.func103, Tryz.ntmps103
  go_wp2_with fail
  go_ret
  exact ⟨by rw [H.out]; rfl, by rw [HW0.out]; exact B1.out⟩
 have e0 : (nm1 == nm2) = true := by rw [beq_iff_eq]; exact g0
 cases hc0 : decide (fs1 = fs2) with
 | false =>
  have H := Lib.hid (show false = msq ⟨nm1, fs1, wh1⟩ ⟨nm2, fs2, wh2⟩ by simp [msq, hc0])
  have HC0 := Lib.hid hc0
  clear g0 hc0
  go_enter Tryz.func103, Tryz.ntmps103
  go_wp2_with fail
  try rw [HW0.out]
  refine (fdsEq_any fs1 fs2 _ _ N0.out N1.out (fun _ => HG1.out)).mono ?_; rintro e w10 ⟨rfl, hb10⟩; rw [HC0.out]
  have B10 := Lib.hid (B1.out.trans (hb10.mono B1.out.size))
  have G10 := Lib.hid hb10
  have Y1 := X1.out.below G10.out
  have Y2 := X2.out.below G10.out
  obtain ⟨r0_0, r0_1, r0_2⟩ := Y1.k3
  obtain ⟨t0_0, t0_1, t0_2⟩ := Y2.k3
  clear Y1 Y2 hb10
  go_wp2_with fail
  go_ret
  exact ⟨by rw [H.out]; rfl, B10.out⟩
 | true =>
  cases hc1 : decide (wh1 = wh2) with
  | false =>
   have H := Lib.hid (show false = msq ⟨nm1, fs1, wh1⟩ ⟨nm2, fs2, wh2⟩ by simp [msq, hc1])
   have HC0 := Lib.hid hc0
   have HC1 := Lib.hid hc1
   clear g0 hc0 hc1
   go_enter Tryz.func103, Tryz.ntmps103
   go_wp2_with fail
   try rw [HW0.out]
   refine (fdsEq_any fs1 fs2 _ _ N0.out N1.out (fun _ => HG1.out)).mono ?_; rintro e w10 ⟨rfl, hb10⟩; rw [HC0.out]
   have B10 := Lib.hid (B1.out.trans (hb10.mono B1.out.size))
   have G10 := Lib.hid hb10
   have Y1 := X1.out.below G10.out
   have Y2 := X2.out.below G10.out
   obtain ⟨r0_0, r0_1, r0_2⟩ := Y1.k3
   obtain ⟨t0_0, t0_1, t0_2⟩ := Y2.k3
   clear Y1 Y2 hb10
   go_wp2_with fail
   refine (amsEq_any wh1 wh2 _ _ (N2.out.belowT G10.out) (N3.out.belowT G10.out) (fun _ => HG2.out)).mono ?_; rintro e w11 ⟨rfl, hb11⟩; rw [HC1.out]
   have B11 := Lib.hid (B10.out.trans (hb11.mono B10.out.size))
   have G11 := Lib.hid (G10.out.trans (hb11.mono G10.out.size))
   have Y1 := X1.out.below G11.out
   have Y2 := X2.out.below G11.out
   obtain ⟨r1_0, r1_1, r1_2⟩ := Y1.k3
   obtain ⟨t1_0, t1_1, t1_2⟩ := Y2.k3
   clear Y1 Y2 hb11
   go_wp2_with fail
   go_ret
   exact ⟨by rw [H.out]; rfl, B11.out⟩
  | true =>
   have H := Lib.hid (show true = msq ⟨nm1, fs1, wh1⟩ ⟨nm2, fs2, wh2⟩ by simp [msq, g0, hc0, hc1])
   have HC0 := Lib.hid hc0
   have HC1 := Lib.hid hc1
   clear g0 hc0 hc1
   go_enter Tryz.func103, Tryz.ntmps103
   go_wp2_with fail
   try rw [HW0.out]
   refine (fdsEq_any fs1 fs2 _ _ N0.out N1.out (fun _ => HG1.out)).mono ?_; rintro e w10 ⟨rfl, hb10⟩; rw [HC0.out]
   have B10 := Lib.hid (B1.out.trans (hb10.mono B1.out.size))
   have G10 := Lib.hid hb10
   have Y1 := X1.out.below G10.out
   have Y2 := X2.out.below G10.out
   obtain ⟨r0_0, r0_1, r0_2⟩ := Y1.k3
   obtain ⟨t0_0, t0_1, t0_2⟩ := Y2.k3
   clear Y1 Y2 hb10
   go_wp2_with fail
   refine (amsEq_any wh1 wh2 _ _ (N2.out.belowT G10.out) (N3.out.belowT G10.out) (fun _ => HG2.out)).mono ?_; rintro e w11 ⟨rfl, hb11⟩; rw [HC1.out]
   have B11 := Lib.hid (B10.out.trans (hb11.mono B10.out.size))
   have G11 := Lib.hid (G10.out.trans (hb11.mono G10.out.size))
   have Y1 := X1.out.below G11.out
   have Y2 := X2.out.below G11.out
   obtain ⟨r1_0, r1_1, r1_2⟩ := Y1.k3
   obtain ⟨t1_0, t1_1, t1_2⟩ := Y2.k3
   clear Y1 Y2 hb11
   go_wp2_with fail
   go_ret
   exact ⟨by rw [H.out]; rfl, B11.out⟩
end
/- Layer 10: the contracts of sameProtocol and Equal, at any protocols. -/
open Go.RowKit

/-- Whether the items are the same. -/
noncomputable def eqIs (X Y : List It) : Bool := @decide (X = Y) (Classical.propDecidable _)
theorem eqIs_iff {X Y : List It} : eqIs X Y = true ↔ X = Y := by unfold eqIs; exact @decide_eq_true_iff _ (Classical.propDecidable _)
noncomputable def prw (x y : Pr) : Bool := decide (x.nm = y.nm) && (decide (x.rs = y.rs) && (eqL msq x.ms y.ms && eqIs x.bd y.bd))
/-- No list of the protocol is too long. -/
structure GQ (p : Pr) : Prop where
 rs : p.rs.length ≤ 1000000000
 ml : p.ms.length ≤ 1000000000
 ms : ∀ m ∈ p.ms, GM m
 td : tdIs p.bd
 sz : nIs p.bd ≤ 1000000000
theorem msq_iff {x y : Ms} : msq x y = true ↔ x = y := by
 obtain ⟨a, b, c⟩ := x
 obtain ⟨d, e, f⟩ := y
 simp [msq]
theorem eqL_iff {α : Type} {q : α → α → Bool} (hq : ∀ x y, q x y = true ↔ x = y) : ∀ {l m : List α}, eqL q l m = true ↔ l = m
 | [], [] => by simp [eqL]
 | [], _ :: _ => by simp [eqL]
 | _ :: _, [] => by simp [eqL]
 | a :: l, b :: m => by simp [eqL, hq, eqL_iff hq]
theorem prw_iff {x y : Pr} : prw x y = true ↔ x = y := by
 obtain ⟨a, b, c, d⟩ := x
 obtain ⟨e, f, g, h⟩ := y
 simp [prw, eqL_iff (fun _ _ => msq_iff), eqIs_iff]
section
variable {w w' : World} {S T : Nat → Prop}
theorem sameItems_dec (X Y : List It) (v u : Value) (L : Lies w S v (dB X)) (M : Lies w S u (dB Y)) (tX : tdIs X) (tY : tdIs Y) (hn : nIs X ≤ 1000000000) :
  Calls Tryz.prog 104 #[v, u] w (Tells w (.bool (eqIs X Y))) := by
 refine (sameItems_any X Y v u L M tX tY hn).mono ?_
 rintro e w3 ⟨b, hb, h⟩
 have : eqIs X Y = b := by rw [Bool.eq_iff_iff, eqIs_iff]; exact hb.symm
 rw [this]
 exact h
set_option maxHeartbeats 8000000 in
theorem sameProtocol_w : IsQ2 59 prw (fun w x v => RPr S w x v ∧ GQ x) := by
 refine ⟨ent_sameProtocol, ?_⟩
 rintro w ⟨nm1, rs1, ms1, bd1⟩ v ⟨nm2, rs2, ms2, bd2⟩ u ⟨⟨v1, v3, v5, rfl, L1, L3, L5⟩, g1⟩ ⟨⟨v2, v4, v6, rfl, L2, L4, L6⟩, g2⟩
 have HG1 := Lib.hid g1
 have HG2 := Lib.hid g2
 clear g1 g2
 obtain ⟨A1, n1, c1, rfl, -⟩ := Lies.slc (show Lies w S v1 (.s 1 (rs1.flatMap fun x => [dS x])) from L1)
 obtain ⟨A2, n2, c2, rfl, -⟩ := Lies.slc (show Lies w S v2 (.s 1 (rs2.flatMap fun x => [dS x])) from L2)
 obtain ⟨A3, n3, c3, rfl, -⟩ := Lies.slc (show Lies w S v3 (.s 3 (ms1.flatMap dM)) from L3)
 obtain ⟨A4, n4, c4, rfl, -⟩ := Lies.slc (show Lies w S v4 (.s 3 (ms2.flatMap dM)) from L4)
 obtain ⟨A5, n5, c5, rfl, -⟩ := Lies.slc (show Lies w S v5 (.s 7 (dIs bd1)) from L5)
 obtain ⟨A6, n6, c6, rfl, -⟩ := Lies.slc (show Lies w S v6 (.s 7 (dIs bd2)) from L6)
 replace L1 : Lies w S (.slice A1 n1 c1) (dL rs1) := L1
 replace L2 : Lies w S (.slice A2 n2 c2) (dL rs2) := L2
 replace L3 : Lies w S (.slice A3 n3 c3) (.s 3 (ms1.flatMap dM)) := L3
 replace L4 : Lies w S (.slice A4 n4 c4) (.s 3 (ms2.flatMap dM)) := L4
 replace L5 : Lies w S (.slice A5 n5 c5) (dB bd1) := L5
 replace L6 : Lies w S (.slice A6 n6 c6) (dB bd2) := L6
 obtain ⟨W0, hW0⟩ : ∃ W, (w.alloc (.cells #[.string (ofL nm1), .slice A1 n1 c1, .slice A3 n3 c3, .slice A5 n5 c5] 59)).alloc (.cells #[.string (ofL nm2), .slice A2 n2 c2, .slice A4 n4 c4, .slice A6 n6 c6] 59) = W := ⟨_, rfl⟩
 have B1 := Lib.hid (show Below w.heap.size w W0 by rw [← hW0]; exact ((Below.refl _ w).alloc (Nat.le_refl _) _).alloc (by simp) _)
 have X1 := Lib.hid (show Bx W0 w.heap.size 59 #[.string (ofL nm1), .slice A1 n1 c1, .slice A3 n3 c3, .slice A5 n5 c5] by rw [← hW0]; exact (Bx.new w _ _).alloc _)
 have X2 := Lib.hid (show Bx W0 (w.heap.size + 1) 59 #[.string (ofL nm2), .slice A2 n2 c2, .slice A4 n4 c4, .slice A6 n6 c6] by rw [← hW0]; exact Bx.new2 (size_alloc _ _))
 have HW0 := Lib.hid hW0
 clear hW0
 obtain ⟨p0, p1, p2, p3⟩ := X1.out.k4
 obtain ⟨q0, q1, q2, q3⟩ := X2.out.k4
 have N0 := Lib.hid (L1.belowT B1.out)
 have N1 := Lib.hid (L2.belowT B1.out)
 have N2 := Lib.hid (L3.belowT B1.out)
 have N3 := Lib.hid (L4.belowT B1.out)
 have N4 := Lib.hid (L5.belowT B1.out)
 have N5 := Lib.hid (L6.belowT B1.out)
 clear L1 L2 L3 L4 L5 L6
 have hs1 : (ofL nm1).toList = nm1 := ofL_toList nm1
 have hs2 : (ofL nm2).toList = nm2 := ofL_toList nm2
 by_cases g0 : nm1 = nm2
 rotate_left
 ·have H := Lib.hid (show false = prw ⟨nm1, rs1, ms1, bd1⟩ ⟨nm2, rs2, ms2, bd2⟩ by simp [prw, g0])
  have e0 : (nm1 == nm2) = false := by rw [beq_eq_false_iff_ne]; exact g0
  clear g0
  go_enter Tryz.func59, Tryz.ntmps59
  go_wp2_with fail
  go_ret
  exact ⟨by rw [H.out]; rfl, by rw [HW0.out]; exact B1.out⟩
 have e0 : (nm1 == nm2) = true := by rw [beq_iff_eq]; exact g0
 cases hc0 : decide (rs1 = rs2) with
 | false =>
  have H := Lib.hid (show false = prw ⟨nm1, rs1, ms1, bd1⟩ ⟨nm2, rs2, ms2, bd2⟩ by simp [prw, hc0])
  have HC0 := Lib.hid hc0
  clear g0 hc0
  go_enter Tryz.func59, Tryz.ntmps59
  go_wp2_with fail
  try rw [HW0.out]
  refine (strsEq_any rs1 rs2 _ _ N0.out N1.out (fun _ => HG1.out.rs)).mono ?_; rintro e w10 ⟨rfl, hb10⟩; rw [HC0.out]
  have B10 := Lib.hid (B1.out.trans (hb10.mono B1.out.size))
  have G10 := Lib.hid hb10
  have Y1 := X1.out.below G10.out
  have Y2 := X2.out.below G10.out
  obtain ⟨r0_0, r0_1, r0_2, r0_3⟩ := Y1.k4
  obtain ⟨t0_0, t0_1, t0_2, t0_3⟩ := Y2.k4
  clear Y1 Y2 hb10
  go_wp2_with fail
  go_ret
  exact ⟨by rw [H.out]; rfl, B10.out⟩
 | true =>
  cases hc1 : eqL msq ms1 ms2 with
  | false =>
   have H := Lib.hid (show false = prw ⟨nm1, rs1, ms1, bd1⟩ ⟨nm2, rs2, ms2, bd2⟩ by simp [prw, hc1])
   have HC0 := Lib.hid hc0
   have HC1 := Lib.hid hc1
   clear g0 hc0 hc1
   go_enter Tryz.func59, Tryz.ntmps59
   go_wp2_with fail
   try rw [HW0.out]
   refine (strsEq_any rs1 rs2 _ _ N0.out N1.out (fun _ => HG1.out.rs)).mono ?_; rintro e w10 ⟨rfl, hb10⟩; rw [HC0.out]
   have B10 := Lib.hid (B1.out.trans (hb10.mono B1.out.size))
   have G10 := Lib.hid hb10
   have Y1 := X1.out.below G10.out
   have Y2 := X2.out.below G10.out
   obtain ⟨r0_0, r0_1, r0_2, r0_3⟩ := Y1.k4
   obtain ⟨t0_0, t0_1, t0_2, t0_3⟩ := Y2.k4
   clear Y1 Y2 hb10
   go_wp2_with fail
   refine (eqfM_any 103 msq GM sameMessage_q ms1 ms2 HG1.out.ms HG2.out.ms _ _ (N2.out.belowT G10.out) (N3.out.belowT G10.out) (fun _ => HG1.out.ml)).mono ?_; rintro e w11 ⟨rfl, hb11⟩; rw [HC1.out]
   have B11 := Lib.hid (B10.out.trans (hb11.mono B10.out.size))
   have G11 := Lib.hid (G10.out.trans (hb11.mono G10.out.size))
   have Y1 := X1.out.below G11.out
   have Y2 := X2.out.below G11.out
   obtain ⟨r1_0, r1_1, r1_2, r1_3⟩ := Y1.k4
   obtain ⟨t1_0, t1_1, t1_2, t1_3⟩ := Y2.k4
   clear Y1 Y2 hb11
   go_wp2_with fail
   go_ret
   exact ⟨by rw [H.out]; rfl, B11.out⟩
  | true =>
   cases hc2 : eqIs bd1 bd2 with
   | false =>
    have H := Lib.hid (show false = prw ⟨nm1, rs1, ms1, bd1⟩ ⟨nm2, rs2, ms2, bd2⟩ by simp [prw, hc2])
    have HC0 := Lib.hid hc0
    have HC1 := Lib.hid hc1
    have HC2 := Lib.hid hc2
    clear g0 hc0 hc1 hc2
    go_enter Tryz.func59, Tryz.ntmps59
    go_wp2_with fail
    try rw [HW0.out]
    refine (strsEq_any rs1 rs2 _ _ N0.out N1.out (fun _ => HG1.out.rs)).mono ?_; rintro e w10 ⟨rfl, hb10⟩; rw [HC0.out]
    have B10 := Lib.hid (B1.out.trans (hb10.mono B1.out.size))
    have G10 := Lib.hid hb10
    have Y1 := X1.out.below G10.out
    have Y2 := X2.out.below G10.out
    obtain ⟨r0_0, r0_1, r0_2, r0_3⟩ := Y1.k4
    obtain ⟨t0_0, t0_1, t0_2, t0_3⟩ := Y2.k4
    clear Y1 Y2 hb10
    go_wp2_with fail
    refine (eqfM_any 103 msq GM sameMessage_q ms1 ms2 HG1.out.ms HG2.out.ms _ _ (N2.out.belowT G10.out) (N3.out.belowT G10.out) (fun _ => HG1.out.ml)).mono ?_; rintro e w11 ⟨rfl, hb11⟩; rw [HC1.out]
    have B11 := Lib.hid (B10.out.trans (hb11.mono B10.out.size))
    have G11 := Lib.hid (G10.out.trans (hb11.mono G10.out.size))
    have Y1 := X1.out.below G11.out
    have Y2 := X2.out.below G11.out
    obtain ⟨r1_0, r1_1, r1_2, r1_3⟩ := Y1.k4
    obtain ⟨t1_0, t1_1, t1_2, t1_3⟩ := Y2.k4
    clear Y1 Y2 hb11
    go_wp2_with fail
    refine (sameItems_dec bd1 bd2 _ _ (N4.out.belowT G11.out) (N5.out.belowT G11.out) HG1.out.td HG2.out.td HG1.out.sz).mono ?_; rintro e w12 ⟨rfl, hb12⟩; rw [HC2.out]
    have B12 := Lib.hid (B11.out.trans (hb12.mono B11.out.size))
    have G12 := Lib.hid (G11.out.trans (hb12.mono G11.out.size))
    have Y1 := X1.out.below G12.out
    have Y2 := X2.out.below G12.out
    obtain ⟨r2_0, r2_1, r2_2, r2_3⟩ := Y1.k4
    obtain ⟨t2_0, t2_1, t2_2, t2_3⟩ := Y2.k4
    clear Y1 Y2 hb12
    go_wp2_with fail
    go_ret
    exact ⟨by rw [H.out]; rfl, B12.out⟩
   | true =>
    have H := Lib.hid (show true = prw ⟨nm1, rs1, ms1, bd1⟩ ⟨nm2, rs2, ms2, bd2⟩ by simp [prw, g0, hc0, hc1, hc2])
    have HC0 := Lib.hid hc0
    have HC1 := Lib.hid hc1
    have HC2 := Lib.hid hc2
    clear g0 hc0 hc1 hc2
    go_enter Tryz.func59, Tryz.ntmps59
    go_wp2_with fail
    try rw [HW0.out]
    refine (strsEq_any rs1 rs2 _ _ N0.out N1.out (fun _ => HG1.out.rs)).mono ?_; rintro e w10 ⟨rfl, hb10⟩; rw [HC0.out]
    have B10 := Lib.hid (B1.out.trans (hb10.mono B1.out.size))
    have G10 := Lib.hid hb10
    have Y1 := X1.out.below G10.out
    have Y2 := X2.out.below G10.out
    obtain ⟨r0_0, r0_1, r0_2, r0_3⟩ := Y1.k4
    obtain ⟨t0_0, t0_1, t0_2, t0_3⟩ := Y2.k4
    clear Y1 Y2 hb10
    go_wp2_with fail
    refine (eqfM_any 103 msq GM sameMessage_q ms1 ms2 HG1.out.ms HG2.out.ms _ _ (N2.out.belowT G10.out) (N3.out.belowT G10.out) (fun _ => HG1.out.ml)).mono ?_; rintro e w11 ⟨rfl, hb11⟩; rw [HC1.out]
    have B11 := Lib.hid (B10.out.trans (hb11.mono B10.out.size))
    have G11 := Lib.hid (G10.out.trans (hb11.mono G10.out.size))
    have Y1 := X1.out.below G11.out
    have Y2 := X2.out.below G11.out
    obtain ⟨r1_0, r1_1, r1_2, r1_3⟩ := Y1.k4
    obtain ⟨t1_0, t1_1, t1_2, t1_3⟩ := Y2.k4
    clear Y1 Y2 hb11
    go_wp2_with fail
    refine (sameItems_dec bd1 bd2 _ _ (N4.out.belowT G11.out) (N5.out.belowT G11.out) HG1.out.td HG2.out.td HG1.out.sz).mono ?_; rintro e w12 ⟨rfl, hb12⟩; rw [HC2.out]
    have B12 := Lib.hid (B11.out.trans (hb12.mono B11.out.size))
    have G12 := Lib.hid (G11.out.trans (hb12.mono G11.out.size))
    have Y1 := X1.out.below G12.out
    have Y2 := X2.out.below G12.out
    obtain ⟨r2_0, r2_1, r2_2, r2_3⟩ := Y1.k4
    obtain ⟨t2_0, t2_1, t2_2, t2_3⟩ := Y2.k4
    clear Y1 Y2 hb12
    go_wp2_with fail
    go_ret
    exact ⟨by rw [H.out]; rfl, B12.out⟩
set_option maxHeartbeats 4000000 in
theorem equal_any (l m : List Pr) (v u : Value) (L : Lies w S v (.s 4 (l.flatMap dP))) (M : Lies w S u (.s 4 (m.flatMap dP))) (hl : ∀ p ∈ l, GQ p) (hm : ∀ p ∈ m, GQ p) (hn : l.length ≤ 1000000000) :
  Calls Tryz.prog 24 #[v, u] w (Tells w (.bool (eqL prw l m))) := by
 obtain ⟨A, n, c, rfl, -⟩ := L.slc
 obtain ⟨A2, n2, c2, rfl, -⟩ := M.slc
 have H := Lib.hid (eqfP_any 59 prw GQ sameProtocol_w l m hl hm _ _ L M (fun _ => hn))
 clear L M hl hm hn
 go_enter Tryz.func24, Tryz.ntmps24
 go_wp2_with fail
 refine H.out.mono ?_; rintro e w3 ⟨rfl, hb3⟩
 have B3 := Lib.hid hb3
 clear hb3
 go_wp2_with fail
 go_ret
 exact ⟨rfl, B3.out⟩
end
/-- Equal answers whether the protocols are the same. -/
theorem eqL_prw {l m : List Pr} : eqL prw l m = true ↔ l = m := eqL_iff fun _ _ => prw_iff
end Go.Proofs.YtekpefcggikcbaaGreatDoor
