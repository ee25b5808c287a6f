/- nfa.Shortest: the walk. -/
import Derived.Test.YtockgbilbnheaaaDoorMNfaGr
namespace Go.Proofs.YtockgbilbnheaaaDoor
open Go.RowKit

theorem own_blk {w : World} {B e sz n b : Nat} {v : Value} {xs : List Value} (h : w.ownsRow B e sz v n xs) (hb : v.ownBlock = some b) : b < w.heap.size := by
 rcases h.2 with ⟨rfl, _⟩ | ⟨q, cap, cur, rfl, h2, h3, _⟩
 ·simp [Value.ownBlock] at hb
 ·have : q = b := by simpa [Value.ownBlock] using hb
  subst this
  exact lt_of_some h3
theorem own_setO {w : World} {B e sz n g i : Nat} {v u : Value} {xs : List Value} (h : w.ownsRow B e sz v n xs) (hne : v.ownBlock ≠ some g) : (w.setCell ⟨g, i, none⟩ u).ownsRow B e sz v n xs :=
 World.ownsRow.kept (row := some g) h (grownBy_setCell w g i u) (.inr hne)
theorem dist_ok {S : Nat} {st : List Int} {fin : List Bool} {ar : List Ac} {sv fv v : Value} {w : World} (hn : VN S st fin ar) (hs : Sl iv w sv st) (hf : Sl bl w fv fin) (ha : Acs w v ar) (hT : Tab w) :
  Calls Tryd.prog 34 #[.agg #[.int .i64 (S : Int), sv, fv, v]] w fun e w' => ∃ (g : Nat) (dl : List Int), e = .returned (.slice (some ⟨g, 0, none⟩) S S) ∧ Bx w' g 3 (dl.map iv).toArray ∧ DsOk S ar (fun x : Int => x ∈ rvS fin S) dl ∧ Below w.heap.size w w' := by
 refine (dist_aux S st fin ar (rvS fin S) (rvF S st) (srtA (rvA ar)) sv fv v w hn hn.rev (fun x y z => ?_) (fun w' s f a h1 h2 h3 => reversed_any S st fin ar s f a w' hn h1 h2 h3) hs hf ha hT).mono ?_
 ·rw [srtA_mem, rvA_mem]
 ·rintro e w' ⟨g, dl, rfl, -, h2, h3, h4, h5, h6⟩
  exact ⟨g, dl, rfl, h2, DsOk.of h3 h4 h5, h6⟩
set_option maxRecDepth 100000 in
set_option maxHeartbeats 4000000 in
theorem shortest_any (S : Nat) (st : List Int) (fin : List Bool) (ar : List Ac) (sv fv v : Value) (w : World) (hn : VN S st fin ar) (hs : Sl iv w sv st) (hf : Sl bl w fv fin) (ha : Acs w v ar) (hT : Tab w) :
  Calls Tryd.prog 16 #[.agg #[.int .i64 (S : Int), sv, fv, v]] w (ShP S st fin ar w) := by
 obtain ⟨As, cs, rfl⟩ := hs.shape
 obtain ⟨Af, cf, rfl⟩ := hf.shape
 obtain ⟨Aa, ca, rfl⟩ := ha.shape
 obtain ⟨X, hX⟩ : ∃ X, X = w.alloc (.cells #[.int .i64 (S : Int), .slice As st.length cs, .slice Af fin.length cf, .slice Aa ar.length ca] 32) := ⟨_, rfl⟩
 have hbw : Below w.heap.size w X := by rw [hX]; exact al1 w _
 have hx : Xa X w.heap.size S (.slice As st.length cs) (.slice Af fin.length cf) (.slice Aa ar.length ca) st fin ar := ⟨by rw [hX]; exact heap_alloc_new w _, hs.below hbw, hf.below hbw, ha.below hbw, hT.below hbw hT.size⟩
 have HX := Lib.hid (show ∀ w', Below X.heap.size X w' → Xa w' w.heap.size S (.slice As st.length cs) (.slice Af fin.length cf) (.slice Aa ar.length ca) st fin ar from fun w' h => hx.below h)
 have HN := Lib.hid hn; have Hbw := Lib.hid hbw; have HW := Lib.hid hX
 have hS := hn.few
 have hst := hn.stl
 have har := hn.va.few
 clear hn hs hf ha hT hbw hx hX
 obtain ⟨x0, x1, x2, x3⟩ := (HX.out _ (Below.refl _ _)).cells
 rw [HW.out] at x0 x1 x2 x3
 go_enter Tryd.func16, Tryd.ntmps16
 go_wp2_with fail
 rw [← HW.out]
 obtain ⟨xb, hxb⟩ : ∃ xb, xb = w.heap.size := ⟨_, rfl⟩
 rw [← hxb] at HX x0 x1 x2 x3 ⊢
 clear hxb
 refine (check_ok S st fin ar _ _ _ none 0 [] X HN.out (HX.out _ (Below.refl _ _)).s (HX.out _ (Below.refl _ _)).f (HX.out _ (Below.refl _ _)).a Sl.nil (by simp) (by simp)).mono ?_
 rintro e w1 ⟨rfl, hb1⟩
 have B1 := Lib.hid hb1; clear hb1 x0 x1 x2 x3
 obtain ⟨x0, x1, x2, x3⟩ := (HX.out _ B1.out).cells
 go_wp2_with fail
 refine (dist_ok HN.out (HX.out _ B1.out).s (HX.out _ B1.out).f (HX.out _ B1.out).a (HX.out _ B1.out).t).mono ?_
 rintro e w2 ⟨g, dl, rfl, hg, hd, hb2⟩
 have hba := al1 w2 (.cells #[.slice (some ⟨g, 0, none⟩) S S] 22)
 have HD := Lib.hid hd
 have BY := Lib.hid (below_ext2 B1.out (below_ext2 hb2 hba))
 have HG := Lib.hid (hg.below hba)
 have HQ := Lib.hid (show Bx (w2.alloc (.cells #[.slice (some ⟨g, 0, none⟩) S S] 22)) w2.heap.size 22 #[.slice (some ⟨g, 0, none⟩) S S] from heap_alloc_new w2 _)
 clear hg hd hb2 hba x0 x1 x2 x3
 obtain ⟨x0, x1, x2, x3⟩ := (HX.out _ BY.out).cells
 go_wp2_with fail
 obtain ⟨Y, hY⟩ : ∃ Y, Y = w2.alloc (.cells #[.slice (some ⟨g, 0, none⟩) S S] 22) := ⟨_, rfl⟩
 rw [← hY] at BY HG HQ x0 x1 x2 x3 ⊢
 obtain ⟨qb, hqb⟩ : ∃ qb, qb = w2.heap.size := ⟨_, rfl⟩
 rw [← hqb] at HQ ⊢
 clear hY hqb x0 x1 x2 x3
 have HY := Lib.hid (show ∀ w', Below Y.heap.size Y w' → Xa w' xb S (.slice As st.length cs) (.slice Af fin.length cf) (.slice Aa ar.length ca) st fin ar from fun w' h => HX.out _ (below_ext2 BY.out h))
 have HE := Lib.hid (show ∀ w', Below Y.heap.size Y w' → Below w.heap.size w w' from fun w' h => below_ext2 Hbw.out (below_ext2 BY.out h))
 have HGQ := Lib.hid (show ∀ w', Below Y.heap.size Y w' → Bx w' g 3 (dl.map iv).toArray ∧ Bx w' qb 22 #[.slice (some ⟨g, 0, none⟩) S S] from fun w' h => ⟨HG.out.below h, HQ.out.below h⟩)
 clear HG HQ HX BY B1 Hbw HW
 refine (closure_any S _ _ _ ar As cs st Y (HY.out _ (Below.refl _ _)).a HN.out.va hS (HY.out _ (Below.refl _ _)).s (by omega) HN.out.bds).mono ?_
 rintro e w3 ⟨v0, l0, rfl, h0, hb3⟩
 have HL0 := Lib.hid (show SetIs w3 v0 l0 (fun n : Nat => Run ar (Cl ar (fun x => x ∈ st)) [] n) from ⟨h0.st, h0.can, h0.wds, h0.len, fun n => (h0.has n).trans rc_cl⟩)
 have HB3 := Lib.hid hb3
 clear h0 hb3
 go_wp2_with fail
 refine (list_any v0 l0 w3 HL0.out.st.sl (by have := HL0.out.len; unfold Room2; omega) HL0.out.wds (HY.out _ HB3.out).t).mono ?_
 rintro e w4 ⟨vl, rfl, hsl, hb4⟩
 have hLm := toI_mem (els l0) (fun n : Int => Rn ar st [] n) (fun n => (lay_list l0 _ HL0.out.has n).trans run_rn) (fun n h => (rn_nil HN.out h).1)
 have hLl := els_len_le l0
 generalize els l0 = L at hsl hLm hLl
 obtain ⟨AL, cL, rfl⟩ := hsl.shape
 have HB4 := Lib.hid (below_ext2 HB3.out hb4)
 have HSL := Lib.hid (show ∀ w', Below w4.heap.size w4 w' → Sl nv w' (.slice AL L.length cL) L from fun w' h => hsl.below h)
 have HLS := Lib.hid (show ∀ w', Below w4.heap.size w4 w' → SetIs w' v0 l0 (fun n : Nat => Run ar (Cl ar (fun x => x ∈ st)) [] n) from fun w' h => (HL0.out.below hb4).below h)
 have KW := Lib.hid (show ∀ w', Below w4.heap.size w4 w' → Below Y.heap.size Y w' from fun w' h => below_ext2 HB4.out h)
 have HLM := Lib.hid hLm
 have HB0 := Lib.hid (Below.refl w4.heap.size w4)
 have HM0 := Lib.hid (show MnL dl (toI (L.take 0)) (-1) from MnL.nil)
 clear hsl hLm hb4 HL0
 go_wp2_with fail
 go_loopw [7, 27] (fun vc vi wr => ∃ (k : Nat) (c : Int), k ≤ L.length ∧ vi = .int .i64 (k : Int) ∧ vc = .int .i64 c ∧ Hid (MnL dl (toI (L.take k)) c) ∧ Hid (Below w4.heap.size w4 wr)) (fun _ vi _ => L.length - (intOf vi).toNat)
 case atStart => exact ⟨0, -1, Nat.zero_le _, rfl, rfl, HM0, HB0⟩
 case round =>
  clear HB0 HM0
  obtain ⟨k, c, hk, rfl, rfl, HM, HB⟩ := hrel
  by_cases hlt : k < L.length
  ·have dk : decide ((k : Int) < (L.length : Int)) = true := decide_eq_true (by omega)
   have hks : (k : Int) < (L.length : Int) := by omega
   obtain ⟨ad, c', hsl, _, hcell⟩ := sl_cell (HSL.out _ HB.out) k hlt
   simp only [Value.slice.injEq, true_and] at hsl
   obtain ⟨rfl, rfl⟩ := hsl
   have hnS := rn_nil HN.out ((HLM.out (L[k] : Nat)).1 (by unfold toI; exact List.mem_map.2 ⟨_, List.getElem_mem hlt, rfl⟩))
   have htk := toI_next L k hlt
   obtain ⟨n, hn⟩ : ∃ n, n = L[k] := ⟨_, rfl⟩
   rw [← hn] at hcell hnS htk
   unfold nv at hcell
   have q0 := (HGQ.out _ (KW.out _ HB.out)).2.cell 0
   have qn := dat_cell (HGQ.out _ (KW.out _ HB.out)).1 n (by have := HD.out.len; omega)
   have ha0 := addr00 g n
   have hng := HD.out.neg (n : Int) hnS.1 hnS.2
   have n0 : (0 : Int) ≤ (n : Int) := hnS.1
   have n1 : (n : Int) < (S : Int) := hnS.2
   have HTK := Lib.hid htk
   have hHM : MnL dl (toI (L.take k)) c := HM.out
   obtain ⟨x, hxe⟩ : ∃ x, x = dat dl (n : Int) := ⟨_, rfl⟩
   have HXE := Lib.hid hxe
   rw [← hxe] at qn hng
   clear hn htk hnS hxe hHM
   by_cases h1 : x = -1
   ·have HMn := Lib.hid (show MnL dl (toI (L.take (k + 1))) c from by rw [HTK.out]; exact HM.out.skip (by rw [← HXE.out]; exact h1))
    subst h1
    clear HXE HTK hng
    go_wp2_with fail
    clear hcell q0 qn
    go_roundw
    case rel => exact ⟨k + 1, c, by omega, by go_num, rfl, HMn, HB⟩
    case measure => simp [intOf]; omega
   ·have hx0 : 0 ≤ x := by omega
    have g1 : (x == (-1 : Int)) = false := by rw [beq_eq_false_iff_ne]; exact h1
    have g2 : decide (x = (-1 : Int)) = false := decide_eq_false h1
    have g3 : (x != (-1 : Int)) = true := by rw [bne, g1]; rfl
    by_cases hc : c = -1
    ·subst hc
     have HMn := Lib.hid (show MnL dl (toI (L.take (k + 1))) x from by rw [HTK.out, HXE.out]; exact HM.out.take (by rw [← HXE.out]; exact hx0) (.inl rfl))
     clear HXE HTK hng
     go_wp2_with fail
     clear hcell q0 qn
     go_roundw
     case rel => exact ⟨k + 1, x, by omega, by go_num, rfl, HMn, HB⟩
     case measure => simp [intOf]; omega
    ·have g4 : (c == (-1 : Int)) = false := by rw [beq_eq_false_iff_ne]; exact hc
     have g5 : decide (c = (-1 : Int)) = false := decide_eq_false hc
     by_cases hl : x < c
     ·have g6 : decide (x < c) = true := decide_eq_true hl
      have HMn := Lib.hid (show MnL dl (toI (L.take (k + 1))) x from by rw [HTK.out, HXE.out]; exact HM.out.take (by rw [← HXE.out]; exact hx0) (.inr (by rw [← HXE.out]; exact hl)))
      clear HXE HTK hng
      go_wp2_with fail
      clear hcell q0 qn
      go_roundw
      case rel => exact ⟨k + 1, x, by omega, by go_num, rfl, HMn, HB⟩
      case measure => simp [intOf]; omega
     ·have g6 : decide (x < c) = false := decide_eq_false hl
      have HMn := Lib.hid (show MnL dl (toI (L.take (k + 1))) c from by rw [HTK.out]; exact HM.out.keep hc (by rw [← HXE.out]; exact hl))
      clear HXE HTK hng
      go_wp2_with fail
      clear hcell q0 qn
      go_roundw
      case rel => exact ⟨k + 1, c, by omega, by go_num, rfl, HMn, HB⟩
      case measure => simp [intOf]; omega
  ·obtain rfl : k = L.length := by omega
   have dk : decide ((L.length : Int) < (L.length : Int)) = false := decide_eq_false (by omega)
   rw [List.take_length] at HM
   by_cases hc : c = -1
   ·subst hc
    have hno := sh_none HN.out HD.out HLM.out (by
     rcases HM.out with ⟨-, h⟩ | ⟨h, -⟩
     ·exact h
     ·omega)
    have HNO := Lib.hid hno
    clear hno
    go_wp2_with fail
    go_ret2
    exact ⟨none, 0, [], 8, rfl, Sl.nil, HE.out _ (KW.out _ HB.out), .inl ⟨rfl, rfl, HNO.out⟩⟩
   ·obtain ⟨m, rfl, hm, hgd, hmin⟩ := sh_start HN.out HD.out HLM.out HM.out hc
    have g4 : ((m : Int) == (-1 : Int)) = false := by rw [beq_eq_false_iff_ne]; exact hc
    have g5 : decide ((m : Int) = (-1 : Int)) = false := decide_eq_false hc
    have hwp : IntKind.i64.wrap ((m : Int) - 1) = (m : Int) - 1 := by rw [IntKind.wrap_i64]; omega
    have HM1 := Lib.hid hm; have HGD := Lib.hid hgd; have HMI := Lib.hid hmin
    have HST := Lib.hid (HLS.out _ HB.out)
    have BZ := Lib.hid (KW.out _ HB.out)
    clear hc hgd hmin HM HSL HLS HLM KW HB HB4 HB3
    go_wp2_with fail
    obtain ⟨pb, hpb⟩ : ∃ pb, pb = wr.heap.size := ⟨_, rfl⟩
    have hba := al1 wr (.cells #[.int .i64 ((m : Int) - 1)] 3)
    have HP0 := Lib.hid (show Bx (wr.alloc (.cells #[.int .i64 ((m : Int) - 1)] 3)) wr.heap.size 3 #[.int .i64 ((m : Int) - 1)] from heap_alloc_new wr _)
    have HS0 := Lib.hid (HST.out.below hba)
    have HZ0 := Lib.hid (below_ext2 BZ.out hba)
    have HR0 := Lib.hid (show (wr.alloc (.cells #[.int .i64 ((m : Int) - 1)] 3)).ownsRow Y.heap.size 3 1 (.slice none 0 0) ([] : List Int).length (([] : List Int).map iv) from World.ownsRow_nil _ _ _ _)
    have HPL := Lib.hid (show Y.heap.size ≤ wr.heap.size from BZ.out.size)
    have HN0 := Lib.hid (show Value.ownBlock (.slice none 0 0) ≠ some wr.heap.size by simp [Value.ownBlock])
    rw [← hpb] at HP0 HPL HN0 ⊢
    clear hba HST BZ hpb hwp
    go_loopw [6, 10, 11] (fun us uw ub wr => ∃ (r : Nat) (q : Int) (v : List Int) (ws : List Nat) (pb : Nat), r ≤ m ∧ q + 1 = (r : Int) ∧ ub = .pointer (some ⟨pb, 0, none⟩) ∧ Hid (Bx wr pb 3 #[.int .i64 q]) ∧ Hid (wr.ownsRow Y.heap.size 3 1 uw v.length (v.map iv)) ∧ Hid (uw.ownBlock ≠ some pb) ∧ Hid (SetIs wr us ws (fun n : Nat => Run ar (Cl ar (fun x => x ∈ st)) v n)) ∧ Hid (Gd ar st (fun x : Int => x ∈ rvS fin S) m v r) ∧ Hid (Below Y.heap.size Y wr) ∧ Hid (Y.heap.size ≤ pb)) (fun _ _ ub wr => restOf ub wr)
    case atStart => exact ⟨m, (m : Int) - 1, [], l0, pb, Nat.le_refl _, by omega, rfl, HP0, HR0, HN0, HS0, HGD, HZ0, HPL⟩
    case round =>
     clear HP0 HR0 HN0 HS0 HGD HZ0 HPL
     obtain ⟨r, q, v, ws, pb, hr, hq, rfl, HP, HR, HNB, HST, HGD, HB, HPL⟩ := hrel
     have p0 := HP.out.cell 0
     have pf := HP.out.free 0
     cases r with
     | zero =>
      have hq0 : q = -1 := by omega
      subst hq0
      have HBS := Lib.hid (sh_done HN.out HM1.out HMI.out HGD.out)
      obtain ⟨Aw, cw, rfl⟩ := own_shapeA HR.out
      clear HGD HMI HM1 HST
      go_wp2_with fail
      go_ret2
      exact ⟨Aw, cw, v, 0, rfl, Sl.of_own HR.out, HE.out _ HB.out, .inr ⟨rfl, HBS.out⟩⟩
     | succ r =>
      obtain rfl : q = (r : Int) := by omega
      have hr2 : r < 200 := by have := HM1.out; omega
      have hv : v.length < 200 := by have := HM1.out; have := HGD.out.len; omega
      obtain ⟨x0, x1, x2, x3⟩ := (HY.out _ HB.out).cells
      have HMW := Lib.hid (show restOf (.pointer (some ⟨pb, 0, none⟩)) wr = r + 1 from by unfold restOf; dsimp only; rw [p0]; simp [intOf]; try omega)
      have dq : decide ((0 : Int) ≤ (r : Int)) = true := decide_eq_true (by omega)
      have hq0 : (0 : Int) ≤ (r : Int) := by omega
      go_wp2_with fail
      refine (least_any S st fin ar _ _ _ u6 ws _ qb pb g dl (r : Int) wr HN.out (HY.out _ HB.out).a HST.out (fun n h => by have := (Run.bd HN.out.va (fun n hn => Cl.bd HN.out.va (fun n hn => HN.out.bds n hn) hn) v n h); omega) (HY.out _ HB.out).t ⟨(HGQ.out _ HB.out).2, HP.out, (HGQ.out _ HB.out).1, HD.out.len⟩).mono ?_
      rintro e w5 ⟨c, rfl, hle, hb5⟩
      have hlm := toI_mem (els ws) (fun n : Int => Rn ar st v n) (fun n => (lay_list ws _ HST.out.has n).trans run_rn) (fun n h => (Run.bd HN.out.va (fun n hn => Cl.bd HN.out.va (fun n hn => HN.out.bds n hn) hn) v n (run_rn.2 h)).1)
      have HGn := Lib.hid (sh_next HN.out HD.out HGD.out hlm hle)
      have HP5 := Lib.hid (HP.out.below hb5)
      have HR5 := Lib.hid (own_below HR.out hb5)
      have HS5 := Lib.hid (HST.out.below hb5)
      have HB5 := Lib.hid (below_ext2 HB.out hb5)
      clear hle hlm hb5 HGD HP HR HST HB p0 pf x0 x1 x2 x3
      have HOb := Lib.hid HR5.out
      have Hsz := Lib.hid (show (w5.alloc (.cells #[.int .i64 c] 3)).heap.size = w5.heap.size + 1 by simp)
      have hY5 : Y.heap.size ≤ w5.heap.size := HB5.out.size
      have hba := al1 w5 (.cells #[.int .i64 c] 3)
      go_wp2_with (at_builtin; refine app1G rfl _ _ 22 rfl 3 (.int .i64 0) 8 info_int rfl Tryd.underlying22 Y.heap.size _ _ _ rfl HOb.out _ rfl rfl (by omega) (by omega) hY5 ?_; intro v' w6 hown6 hg6; have hf6 : Frm 3 Y.heap.size (w5.alloc (.cells #[.int .i64 c] 3)) w6 := Frm.grown (HR5.out.alloc _) hg6; have HB6 := Lib.hid ((below_ext2 HB5.out hba).trans (hf6.below (by have := Hsz.out; omega))); obtain ⟨x0, x1, x2, x3⟩ := (HY.out _ HB6.out).cells)
      have HR6 := Lib.hid (show w6.ownsRow Y.heap.size 3 1 v' (v ++ [c]).length ((v ++ [c]).map iv) from by rw [List.length_append, List.length_singleton, List.map_append]; exact hown6)
      have HS6 := Lib.hid ((HS5.out.below hba).frm hf6 (by decide))
      have HP6 := Lib.hid (show Bx w6 pb 3 #[.int .i64 (r : Int)] from (hg6.block pb (by have := HP5.out.lt; have := Hsz.out; omega) (Ne.symm HNB.out)).trans (HP5.out.below hba))
      have HK6 := Lib.hid (fun b (h : v'.ownBlock = some b) => own_blk hown6 h)
      clear hba hf6 hown6 hg6 HR5 HS5 HB5 HP5 HOb Hsz HNB
      refine (step_any S _ _ _ u6 ar ws c w6 (HY.out _ HB6.out).a HN.out.va hS HS6.out.st.sl HS6.out.wds HS6.out.len (HY.out _ HB6.out).t).mono ?_
      rintro e w7 ⟨v7, ws7, rfl, h7, hb7⟩
      have HS7 := Lib.hid (show SetIs w7 v7 ws7 (fun n : Nat => Run ar (Cl ar (fun x => x ∈ st)) (v ++ [c]) n) from h7.congr fun n => by
       rw [Run.snoc]
       exact Sp.congr fun x => HS6.out.els (P := fun x => Run ar (Cl ar (fun x => x ∈ st)) v x) (fun n hn => (Run.bd HN.out.va (fun n hn => Cl.bd HN.out.va (fun n hn => HN.out.bds n hn) hn) v n hn).1) x)
      have HP7 := Lib.hid (HP6.out.below hb7)
      have HR7 := Lib.hid (own_below HR6.out hb7)
      have HB7 := Lib.hid (below_ext2 HB6.out hb7)
      have HK7 := Lib.hid (show v'.ownBlock ≠ some w7.heap.size from fun h => by have := HK6.out _ h; have := hb7.size; omega)
      clear h7 hb7 HS6 HP6 HR6 HB6 HK6 x0 x1 x2 x3
      have p0 := HP7.out.cell 0
      have hba := al1 w7 (.cells #[.int .i64 ((r : Int) - 1)] 3)
      have hN : Bx (w7.alloc (.cells #[.int .i64 ((r : Int) - 1)] 3)) w7.heap.size 3 #[.int .i64 ((r : Int) - 1)] := heap_alloc_new w7 _
      have hwp : IntKind.i64.wrap ((r : Int) - 1) = (r : Int) - 1 := by rw [IntKind.wrap_i64]; omega
      have HN8 := Lib.hid hN
      have HR8 := Lib.hid (own_below HR7.out hba)
      have HS8 := Lib.hid (HS7.out.below hba)
      have HB8 := Lib.hid (below_ext2 HB7.out hba)
      have HZ8 := Lib.hid (show Y.heap.size ≤ w7.heap.size from HB7.out.size)
      have HM8 := Lib.hid (show restOf (.pointer (some ⟨w7.heap.size, 0, none⟩)) (w7.alloc (.cells #[.int .i64 ((r : Int) - 1)] 3)) = r from by unfold restOf; dsimp only; rw [hN.cell 0]; simp [intOf])
      clear hba hN HP7 HR7 HS7 HB7
      go_wp2_with fail
      clear p0 hwp
      go_roundw
      case rel => exact ⟨r, (r : Int) - 1, v ++ [c], ws7, w7.heap.size, by omega, by omega, rfl, HN8, HR8, HK7, HS8, HGn, HB8, HZ8⟩
      case measure => rw [HM8.out, HMW.out]; omega
end Go.Proofs.YtockgbilbnheaaaDoor
