/- Layer 13: the reference's Widen (tools/gen_zw3.py). -/
import Derived.Test.YtepeeeiekeppjaaZnRu
import Derived.Test.YtepeeeiekeppjaaZnWi
namespace Go.Proofs.Ytepeeeiekeppjaa
open Go.RowKit

theorem set_same {l : List Int} {p : Nat} {x : Int} (h : p < l.length) (e : l[p] = x) : l.set p x = l := by subst e; exact List.set_getElem_self h
set_option maxRecDepth 20000 in
set_option maxHeartbeats 1000000 in
theorem rwiden_any (N M : Int) (v u : Value) (a b : List Int) (w : World) (h : Sl iv w v a) (hl : a.length ≤ 9223372036854775807) (h2 : Sl iv w u b) (hl2 : b.length ≤ 9223372036854775807) :
    Calls Try.prog 34 #[.agg #[.int .i64 N, v], .agg #[.int .i64 M, u]] w (ZP w (widZ N a M b)) := by
  obtain ⟨A, c, rfl⟩ := h.shape
  obtain ⟨A2, c2, rfl⟩ := h2.shape
  have H := Lib.hid h
  have H2 := Lib.hid h2
  clear h h2
  cases hp : zvB N a with
  | false =>
    have HA := Lib.hid (show aliB N a M b = false from by unfold aliB; rw [hp]; rfl)
    have Hp := Lib.hid hp
    clear hp
    go_enter Try.func34, Try.ntmps34
    go_wp2_with fail
    refine (rvalid_any N _ a _ (H.out.below (al3 w _ _ _)) hl).mono ?_; rintro e w1 ⟨rfl, hb⟩; rw [Hp.out]
    obtain ⟨HX, HD, HY, HB⟩ := three_boxes rfl rfl rfl hb
    clear hb
    obtain ⟨y0, y1⟩ := HY.out.k2
    obtain ⟨f0, f1⟩ := HY.out.f2
    go_wp2_with fail
    refine bodyPost_ret (v := .tuple #[.agg #[.int .i64 0, .slice none 0 0], .int .i64 1]) (bx_ret2 ((HY.out.set 0 _).set 1 _) Try.results34 _ rfl Try.underlying24 rfl (by kernel_rfl)) rfl ?_
    exact zp_zero (widZ_bad HA.out) (by omega) HB.out
  | true =>
  cases hq : zvB M b with
  | false =>
    have HA := Lib.hid (show aliB N a M b = false from by unfold aliB; rw [hp, hq]; rfl)
    have Hp := Lib.hid hp
    have Hq := Lib.hid hq
    clear hp hq
    go_enter Try.func34, Try.ntmps34
    go_wp2_with fail
    refine (rvalid_any N _ a _ (H.out.below (al3 w _ _ _)) hl).mono ?_; rintro e w1 ⟨rfl, hb⟩; rw [Hp.out]
    obtain ⟨HX, HD, HY, HB⟩ := three_boxes rfl rfl rfl hb
    clear hb
    obtain ⟨d0, d1⟩ := HD.out.k2
    go_wp2_with fail
    refine (rvalid_any M _ b _ (H2.out.below HB.out) hl2).mono ?_; rintro e w9 ⟨rfl, hb⟩; rw [Hq.out]
    have HB2 := Lib.hid (HB.out.trans (hb.mono HB.out.size))
    have HX2 := Lib.hid (HX.out.below hb)
    have HD2 := Lib.hid (HD.out.below hb)
    have HY2 := Lib.hid (HY.out.below hb)
    clear hb d0 d1 HB HX HD HY
    obtain ⟨x0, x1⟩ := HX2.out.k2
    obtain ⟨d0, d1⟩ := HD2.out.k2
    clear x0 x1 d0 d1
    have HB := HB2
    have HY := HY2
    obtain ⟨y0, y1⟩ := HY.out.k2
    obtain ⟨f0, f1⟩ := HY.out.f2
    go_wp2_with fail
    refine bodyPost_ret (v := .tuple #[.agg #[.int .i64 0, .slice none 0 0], .int .i64 1]) (bx_ret2 ((HY.out.set 0 _).set 1 _) Try.results34 _ rfl Try.underlying24 rfl (by kernel_rfl)) rfl ?_
    exact zp_zero (widZ_bad HA.out) (by omega) HB.out
  | true =>
  by_cases hN : N = M
  rotate_left
  · have HA := Lib.hid (show aliB N a M b = false from by unfold aliB; rw [hp, hq, decide_eq_false hN]; rfl)
    have hne : (N != M) = true := by rw [bne_iff_ne]; exact hN
    have Hp := Lib.hid hp
    have Hq := Lib.hid hq
    clear hp hq hN
    go_enter Try.func34, Try.ntmps34
    go_wp2_with fail
    refine (rvalid_any N _ a _ (H.out.below (al3 w _ _ _)) hl).mono ?_; rintro e w1 ⟨rfl, hb⟩; rw [Hp.out]
    obtain ⟨HX, HD, HY, HB⟩ := three_boxes rfl rfl rfl hb
    clear hb
    obtain ⟨d0, d1⟩ := HD.out.k2
    go_wp2_with fail
    refine (rvalid_any M _ b _ (H2.out.below HB.out) hl2).mono ?_; rintro e w9 ⟨rfl, hb⟩; rw [Hq.out]
    have HB2 := Lib.hid (HB.out.trans (hb.mono HB.out.size))
    have HX2 := Lib.hid (HX.out.below hb)
    have HD2 := Lib.hid (HD.out.below hb)
    have HY2 := Lib.hid (HY.out.below hb)
    clear hb d0 d1 HB HX HD HY
    obtain ⟨x0, x1⟩ := HX2.out.k2
    obtain ⟨d0, d1⟩ := HD2.out.k2
    have HB := HB2
    have HY := HY2
    obtain ⟨y0, y1⟩ := HY.out.k2
    obtain ⟨f0, f1⟩ := HY.out.f2
    go_wp2_with fail
    refine bodyPost_ret (v := .tuple #[.agg #[.int .i64 0, .slice none 0 0], .int .i64 1]) (bx_ret2 ((HY.out.set 0 _).set 1 _) Try.results34 _ rfl Try.underlying24 rfl (by kernel_rfl)) rfl ?_
    exact zp_zero (widZ_bad HA.out) (by omega) HB.out
  have hA : aliB N a M b = true := by unfold aliB; rw [hp, hq, decide_eq_true hN]; rfl
  obtain ⟨m, rfl, rfl, hm, hz1, hz2⟩ := aliB_nat hA
  have HA := Lib.hid hA
  have HZ1 := Lib.hid hz1
  have HZ2 := Lib.hid hz2
  have hne : ((m : Int) != (m : Int)) = false := by rw [bne_eq_false_iff_eq]
  have Hp := Lib.hid hp
  have Hq := Lib.hid hq
  clear hA hz1 hz2 hp hq hN
  go_enter Try.func34, Try.ntmps34
  go_wp2_with fail
  refine (rvalid_any (m : Int) _ a _ (H.out.below (al3 w _ _ _)) hl).mono ?_; rintro e w1 ⟨rfl, hb⟩; rw [Hp.out]
  obtain ⟨HX, HD, HY, HB⟩ := three_boxes rfl rfl rfl hb
  clear hb
  obtain ⟨d0, d1⟩ := HD.out.k2
  go_wp2_with fail
  refine (rvalid_any (m : Int) _ b _ (H2.out.below HB.out) hl2).mono ?_; rintro e w9 ⟨rfl, hb⟩; rw [Hq.out]
  have HB2 := Lib.hid (HB.out.trans (hb.mono HB.out.size))
  have HX2 := Lib.hid (HX.out.below hb)
  have HD2 := Lib.hid (HD.out.below hb)
  have HY2 := Lib.hid (HY.out.below hb)
  clear hb d0 d1 HB HX HD HY
  obtain ⟨x0, x1⟩ := HX2.out.k2
  obtain ⟨d0, d1⟩ := HD2.out.k2
  go_wp2_with fail
  clear x0 x1 d0 d1 hne
  have HB := HB2
  have HX := HX2
  have HD := HD2
  have HY := HY2
  have hla := HZ1.out.len
  have hb0 : 0 < a.length := by rw [hla]; exact Nat.mul_pos (by omega) (by omega)
  have hb1 : a.length ≤ 1000000000 := by rw [hla]; exact Nat.le_trans (Nat.mul_le_mul (by omega : m + 1 ≤ 25) (by omega : m + 1 ≤ 25)) (by decide)
  clear HB2 HX2 HD2 HY2 hla
  refine (rclose_any m _ a _ (H.out.below HB.out) hl).mono ?_; rintro e w2 ⟨v, rfl, ho, hb⟩
  obtain ⟨A3, c3, rfl⟩ := own_shapeG ho
  obtain ⟨⟨⟨n1, l1⟩, t1⟩, hr1⟩ : ∃ r1, r1 = closeZ (m : Int) a := ⟨_, rfl⟩
  rw [← hr1] at ho ⊢
  have HR1 := Lib.hid hr1
  obtain ⟨b1, rfl⟩ : ∃ b1, t1 = .bool b1 := by
    unfold closeZ at hr1
    split at hr1 <;> cases hr1 <;> exact ⟨_, rfl⟩
  dsimp only at ho ⊢
  have hba := hb.trans ((al1 w2 (.cells #[.int .i64 n1, .slice A3 l1.length c3] 24)).mono hb.size)
  have HB3 := Lib.hid (HB.out.trans (hba.mono HB.out.size))
  have HX3 := Lib.hid (HX.out.below hba)
  have HD3 := Lib.hid (HD.out.below hba)
  have HY3 := Lib.hid (HY.out.below hba)
  clear hb hba HB HX HD HY ho hr1
  obtain ⟨d0, d1⟩ := HD3.out.k2
  go_wp2_with fail
  refine (rclose_any m _ b _ (H2.out.below HB3.out) hl2).mono ?_; rintro e w4 ⟨v, rfl, ho, hb⟩
  obtain ⟨A5, c5, rfl⟩ := own_shapeG ho
  obtain ⟨⟨⟨n2, l2⟩, t2⟩, hr2⟩ : ∃ r2, r2 = closeZ (m : Int) b := ⟨_, rfl⟩
  rw [← hr2] at ho ⊢
  have HR2 := Lib.hid hr2
  obtain ⟨b2, rfl⟩ : ∃ b2, t2 = .bool b2 := by
    unfold closeZ at hr2
    split at hr2 <;> cases hr2 <;> exact ⟨_, rfl⟩
  dsimp only at ho ⊢
  have hba := hb.trans ((al1 w4 (.cells #[.int .i64 n2, .slice A5 l2.length c5] 24)).mono hb.size)
  have HB5 := Lib.hid (HB3.out.trans (hba.mono HB3.out.size))
  have HX5 := Lib.hid (HX3.out.below hba)
  have HY5 := Lib.hid (HY3.out.below hba)
  have HG5 := Lib.hid (Bx.new w4 24 #[.int .i64 n2, .slice A5 l2.length c5])
  have HQ5 := Lib.hid (show Own (w4.alloc (.cells #[.int .i64 n2, .slice A5 l2.length c5] 24)) _ _ _ _ from Own.keep ho (al1 w4 _))
  have hys := HY3.out.lt
  clear hb hba HB3 HX3 HD3 HY3 ho d0 d1 hr2
  have HGA := Lib.hid (fun k (e : (Value.slice A5 l2.length c5).ownBlock = some k) => (World.ownsRow.lt HQ5.out k e).2)
  generalize hB9 : (w2.alloc (.cells #[.int .i64 n1, .slice A3 l1.length c3] 24)).heap.size = B9 at *
  clear hB9
  generalize hb8 : w4.heap.size = q8 at *
  generalize hw5 : w4.alloc (.cells #[.int .i64 n2, .slice A5 l2.length c5] 24) = w5 at *
  have hg8 := HG5.out.lt
  obtain ⟨x0, x1⟩ := HX5.out.k2
  go_wp2_with (first | rw [hw5] | rw [hb8])
  clear x0 x1
  refine region_inv (n := 99) (CpI (w5) 24 (w.heap.size) (.int .i64 (m : Int)) (.slice A a.length c) (a)) (by kernel_rfl) (by kernel_rfl) rfl ?_ (allOps_spec ?_) ?_
  · intro vs
    exact CpI.start
  · refine ⟨?_, ?_, ?_, ?_, ?_, ?_, ?_, ?_, ?_, trivial⟩
    · intro L vs ac w6 hB hL hd hI
      have b0 : ac.tmps[2]?.getD undef = .pointer (some ⟨w.heap.size, 0, none⟩) := hB.at 2 (by kernel_rfl)
      exact stepI_run (v := .pointer (some ⟨w.heap.size, 0, none⟩)) rfl (by simp [execOp, go_sem, Act.eval, b0]) hI.t0
    · intro L vs ac w6 hB hL hd hI
      have b0 : ac.tmps[43]?.getD undef = .pointer (some ⟨w.heap.size, 0, none⟩) := (hB.val 0 (hd ⟨0, .data⟩ (by simp) rfl) 43 rfl).trans (hI.q0 (hd ⟨0, .data⟩ (by simp) rfl))
      have q0 := (Bx.below HX5.out hI.bel).cell 0
      exact stepI_run (v := .int .i64 (m : Int)) rfl (by simp [execOp, go_sem, Act.eval, b0, q0]) hI.t1
    · intro L vs ac w6 hB hL hd hI
      have h5 : L 5 = false := hB.wait 2 5 hL (by kernel_rfl)
      exact stepI_run (v := .slice (some ⟨w6.heap.size, 0, none⟩) 0 0) rfl (by simp [execOp, go_sem, Act.eval]) (hI.t2 h5)
    · intro L vs ac w6 hB hL hd hI
      have b0 : ac.tmps[2]?.getD undef = .pointer (some ⟨w.heap.size, 0, none⟩) := hB.at 2 (by kernel_rfl)
      exact stepI_run (v := .pointer (some ⟨w.heap.size, 1, none⟩)) rfl (by simp [execOp, go_sem, Act.eval, b0]) hI.t3
    · intro L vs ac w6 hB hL hd hI
      have b0 : ac.tmps[46]?.getD undef = .pointer (some ⟨w.heap.size, 1, none⟩) := (hB.val 3 (hd ⟨3, .data⟩ (by simp) rfl) 46 rfl).trans (hI.q3 (hd ⟨3, .data⟩ (by simp) rfl))
      have q1 := (Bx.below HX5.out hI.bel).cell 1
      exact stepI_run (v := .slice A a.length c) rfl (by simp [execOp, go_sem, Act.eval, b0, q1]) hI.t4
    · intro L vs ac w6 hB hL hd hI
      have h2 : L 2 = true := hd ⟨2, .data⟩ (by simp) rfl
      have b0 : ac.tmps[45]?.getD undef = vs 2 := hB.val 2 h2 45 rfl
      have b1 : ac.tmps[47]?.getD undef = .slice A a.length c := (hB.val 4 (hd ⟨4, .data⟩ (by simp) rfl) 47 rfl).trans (hI.q4 (hd ⟨4, .data⟩ (by simp) rfl))
      have h6 : L 6 = false := hB.wait 5 6 hL (by kernel_rfl)
      have h8 : L 8 = false := hB.wait 6 8 h6 (by kernel_rfl)
      exact stepI_cp hI (by kernel_rfl) info_int rfl rfl b0 b1 (H.out.below HB5.out) hb0 hb1 h2 hL h6 h8
    · intro L vs ac w6 hB hL hd hI
      have h5 : L 5 = true := hd ⟨5, .data⟩ (by simp) rfl
      have b0 : ac.tmps[44]?.getD undef = .int .i64 (m : Int) := (hB.val 1 (hd ⟨1, .data⟩ (by simp) rfl) 44 rfl).trans (hI.q1 (hd ⟨1, .data⟩ (by simp) rfl))
      obtain ⟨A9, c9, e9, -⟩ := hI.q5 h5
      have b1 : ac.tmps[48]?.getD undef = .slice A9 (a).length c9 := (hB.val 5 h5 48 rfl).trans e9
      exact stepI_run (v := .agg #[.int .i64 (m : Int), vs 5]) rfl (by simp [execOp, go_sem, Act.eval, b0, b1, e9]) (hI.t6 h5)
    · intro L vs ac w6 hB hL hd hI
      have h8 : L 8 = false := hB.wait 7 8 hL (by kernel_rfl)
      exact stepI_run (v := .pointer (some ⟨w6.heap.size, 0, none⟩)) (w' := w6.alloc (.cells #[.int .i64 0, .slice none 0 0] 24)) rfl (exec_alloc 24 rfl info_Zr) (hI.t7 h8)
    · intro L vs ac w6 hB hL hd hI
      have h6 : L 6 = true := hd ⟨6, .data⟩ (by simp) rfl
      have h7 : L 7 = true := hd ⟨7, .data⟩ (by simp) rfl
      obtain ⟨h5, e6⟩ := hI.q6 h6
      obtain ⟨nb, h8v, hnb, hx, -⟩ := hI.q7 h7
      obtain ⟨A9, c9, e9, -⟩ := hI.q5 h5
      rw [hL, if_neg Bool.false_ne_true] at hx
      have b6 : ac.tmps[11]?.getD undef = .pointer (some ⟨nb, 0, none⟩) := (hB.val 7 h7 11 rfl).trans h8v
      have b22 : ac.tmps[49]?.getD undef = .agg #[.int .i64 (m : Int), vs 5] := (hB.val 6 h6 49 rfl).trans e6
      exact stepI_store_row rfl 24 11 49 rfl nb _ b6 b22 _ hx (by kernel_rfl) rfl (by rw [e9]; simp [Value.oneCell']) (hI.t8 h7 h5 h8v)
  · intro L vs w7 hall hI
    obtain ⟨nb, A4, c4, e6, hnb, hx4, ho4, hne4, hb4⟩ := hI.fin fun i hi => hall i hi
    clear hI hall
    simp only [putAll, Act.put, List.setIfInBounds_toArray, List.set_cons_zero, List.set_cons_succ, Nat.zero_add, Nat.reduceAdd, e6]
    clear e6
    have HB7 := Lib.hid (HB5.out.trans (hb4.mono HB5.out.size))
    have HY7 := Lib.hid (HY5.out.below hb4)
    have HG7 := Lib.hid (HG5.out.below hb4)
    have HQ7 := Lib.hid (show Own w7 _ _ _ _ from Own.keep HQ5.out hb4)
    have HNB := Lib.hid hx4
    have HO7 := Lib.hid ho4
    have HNE := Lib.hid hne4
    have hsy := HY5.out.lt
    have hsz5 := HB5.out.size
    have HSY := Lib.hid hys
    clear hx4 ho4 hne4 hb4 HB5 HX5 HY5 HG5 HQ5 hw5 hb8
    cases hcb : closeR (m : Int) b with
    | none =>
      have h2 := HR2.out
      rw [closeZ_none hcb] at h2
      simp only [Prod.mk.injEq, Value.bool.injEq] at h2
      obtain ⟨⟨rfl, rfl⟩, rfl⟩ := h2
      have HR := Lib.hid (widZ_1 HA.out hcb)
      obtain ⟨x0, x1⟩ := HNB.out.k2
      obtain ⟨y0, y1⟩ := HY7.out.k2
      obtain ⟨f0, f1⟩ := HY7.out.f2
      clear hcb
      go_wp2_with fail
      refine bodyPost_ret (v := .tuple #[.agg #[.int .i64 (m : Int), .slice A4 a.length c4], .int .i64 0]) (bx_ret2 ((HY7.out.set 0 _).set 1 _) Try.results34 _ rfl Try.underlying24 rfl (by kernel_rfl)) rfl ?_
      exact zp_fin HR.out (by omega) HB7.out hsz5 HO7.out (HO7.out.lt (.inl hsy))
    | some cl =>
      have h2 := HR2.out
      rw [closeZ_some hcb] at h2
      simp only [Prod.mk.injEq, Value.bool.injEq] at h2
      obtain ⟨⟨rfl, rfl⟩, rfl⟩ := h2
      cases hca : closeR (m : Int) a with
      | none =>
        have h1 := HR1.out
        rw [closeZ_none hca] at h1
        simp only [Prod.mk.injEq, Value.bool.injEq] at h1
        obtain ⟨⟨rfl, rfl⟩, rfl⟩ := h1
        have HR := Lib.hid (widZ_2 HA.out hcb hca)
        obtain ⟨x0, x1⟩ := HG7.out.k2
        obtain ⟨y0, y1⟩ := HY7.out.k2
        obtain ⟨f0, f1⟩ := HY7.out.f2
        clear hcb hca
        go_wp2_with fail
        refine bodyPost_ret (v := .tuple #[.agg #[.int .i64 (m : Int), .slice A5 l2.length c5], .int .i64 0]) (bx_ret2 ((HY7.out.set 0 _).set 1 _) Try.results34 _ rfl Try.underlying24 rfl (by kernel_rfl)) rfl ?_
        exact zp_fin HR.out (by omega) HB7.out (by have := HSY.out; omega) HQ7.out (HQ7.out.lt (.inl HSY.out))
      | some dl =>
        have h1 := HR1.out
        rw [closeZ_some hca] at h1
        simp only [Prod.mk.injEq, Value.bool.injEq] at h1
        obtain ⟨⟨rfl, rfl⟩, rfl⟩ := h1
        have HR := Lib.hid (widZ_3 HA.out hcb hca)
        have hal := HZ1.out.len
        have hdl := cls_len HZ2.out ((closeR_nat HZ2.out).symm.trans hcb)
        obtain ⟨g, cap1, hg, hga, hgb, -⟩ := own_shape HO7.out hb0
        simp only [Value.slice.injEq] at hg
        obtain ⟨rfl, -, rfl⟩ := hg
        obtain ⟨g2, cap2, hg, hg2a, hg2b, -⟩ := own_shape HQ7.out (by rw [hdl]; exact Nat.mul_pos (by omega) (by omega))
        simp only [Value.slice.injEq] at hg
        obtain ⟨rfl, -, rfl⟩ := hg
        have hgn : g ≠ nb := fun e => HNE.out (by rw [e]; rfl)
        have hg25 : g2 < w5.heap.size := HGA.out g2 rfl
        have HAL := Lib.hid hal
        have HDL := Lib.hid hdl
        rw [hal] at HNB HO7
        rw [hdl] at HG7 HQ7
        have HOL := Lib.hid (show Own w7 w5.heap.size (.slice (some ⟨g, 0, none⟩) ((m + 1) * (m + 1)) c4) ((m + 1) * (m + 1)) (mixL (m + 1) (wiB (m + 1) a l2) (gt (m + 1) a) (0 * (m + 1))) from by rw [Nat.zero_mul, mix_zero, flat_gt hal]; exact HO7.out)
        clear HO7 HNE hcb hca hal hdl HR1 HR2 hb0 hb1 hgb hg2b
        go_wp2_with fail
        go_loopw [12] (fun zz wr => ∃ i : Nat, i ≤ m + 1 ∧ zz = .int .i64 (i : Int) ∧ Hid (Own wr w5.heap.size (.slice (some ⟨g, 0, none⟩) ((m + 1) * (m + 1)) c4) ((m + 1) * (m + 1)) (mixL (m + 1) (wiB (m + 1) a l2) (gt (m + 1) a) (i * (m + 1)))) ∧ Hid (Own wr (B9) (.slice (some ⟨g2, 0, none⟩) ((m + 1) * (m + 1)) c5) ((m + 1) * (m + 1)) l2) ∧ Hid (Below w.heap.size w wr) ∧ Hid (Bx wr (w.heap.size + 2) 24 #[.int .i64 0, .slice none 0 0]) ∧ Hid (Bx wr q8 24 #[.int .i64 (m : Int), .slice (some ⟨g2, 0, none⟩) ((m + 1) * (m + 1)) c5]) ∧ Bx wr nb 24 #[.int .i64 (m : Int), .slice (some ⟨g, 0, none⟩) ((m + 1) * (m + 1)) c4]) (fun i _ => m + 1 - (intOf i).toNat)
        case atStart => exact ⟨0, Nat.zero_le _, rfl, HOL, HQ7, HB7, HY7, HG7, HNB.out⟩
        case round =>
          clear HOL HQ7 HB7 HY7 HG7 HNB
          obtain ⟨i, hi, rfl, HO, HQ, HBE, HRB, HG, hx⟩ := hrel
          have HNB := Lib.hid hx
          clear hx
          by_cases hil : i < m + 1
          · have di : decide ((i : Int) < (m : Int) + 1) = true := decide_eq_true (by omega)
            go_wp2_with fail
            go_loopw [13] (fun zz wr => ∃ j : Nat, j ≤ m + 1 ∧ zz = .int .i64 (j : Int) ∧ Hid (Own wr w5.heap.size (.slice (some ⟨g, 0, none⟩) ((m + 1) * (m + 1)) c4) ((m + 1) * (m + 1)) (mixL (m + 1) (wiB (m + 1) a l2) (gt (m + 1) a) (i * (m + 1) + j))) ∧ Hid (Own wr (B9) (.slice (some ⟨g2, 0, none⟩) ((m + 1) * (m + 1)) c5) ((m + 1) * (m + 1)) l2) ∧ Hid (Below w.heap.size w wr) ∧ Hid (Bx wr (w.heap.size + 2) 24 #[.int .i64 0, .slice none 0 0]) ∧ Hid (Bx wr q8 24 #[.int .i64 (m : Int), .slice (some ⟨g2, 0, none⟩) ((m + 1) * (m + 1)) c5]) ∧ Bx wr nb 24 #[.int .i64 (m : Int), .slice (some ⟨g, 0, none⟩) ((m + 1) * (m + 1)) c4]) (fun i _ => m + 1 - (intOf i).toNat)
            case atStart => exact ⟨0, Nat.zero_le _, rfl, HO, HQ, HBE, HRB, HG, HNB.out⟩
            case round =>
              clear HO HQ HBE HRB HG HNB
              obtain ⟨j, hj, rfl, HO, HQ, HBE, HRB, HG, hx⟩ := hrel
              have HNB := Lib.hid hx
              clear hx
              by_cases hjl : j < m + 1
              · have dj : decide ((j : Int) < (m : Int) + 1) = true := decide_eq_true (by omega)
                have hsq := sq_lt hil hjl
                have hmf := mul_few hm (show i ≤ m by omega)
                have hset := mix_set (wiB (m + 1) a l2) (gt (m + 1) a) hil hjl
                have hc1 := own_gt HO.out (mix_len _ _ _ _) hil hjl
                have hsame : gt (m + 1) (mixL (m + 1) (wiB (m + 1) a l2) (gt (m + 1) a) (i * (m + 1) + j)) i j = wiB (m + 1) a l2 i j → mixL (m + 1) (wiB (m + 1) a l2) (gt (m + 1) a) (i * (m + 1) + j + 1) = mixL (m + 1) (wiB (m + 1) a l2) (gt (m + 1) a) (i * (m + 1) + j) := fun e => by
                  rw [← hset]
                  exact set_same (by rw [mix_len]; exact hsq) (by rw [gt_at (n := m + 1)]; exact e)
                rw [mix_new _ _ hil hjl] at hc1 hsame
                have hc2 := own_gt HQ.out HDL.out hil hjl
                have hwi : wiB (m + 1) a l2 i j = if gt (m + 1) l2 i j ≤ gt (m + 1) a i j then gt (m + 1) a i j else fuB i j := rfl
                have HFU := Lib.hid (fun w6 => rfull_any i j w6 (by omega) (by omega))
                generalize gt (m + 1) l2 i j = y2 at *
                generalize gt (m + 1) a i j = y1 at *
                generalize wiB (m + 1) a l2 i j = x at *
                generalize fuB i j = f at *
                have hp1 : ((i * (m + 1) + j : Nat) : Int) < ((((m + 1) * (m + 1)) : Nat) : Int) := by omega
                have hrm : (i : Int) * ((m : Int) + 1) = ((i * (m + 1) : Nat) : Int) := by push_cast; rfl
                obtain ⟨r, hrr⟩ : ∃ r, i * (m + 1) = r := ⟨_, rfl⟩
                rw [hrr] at hset hsame hc1 hc2 hp1 hrm hmf HO
                have hpa : (r : Int) + (j : Int) = ((r + j : Nat) : Int) := by push_cast; rfl
                obtain ⟨p, hpp⟩ : ∃ p, r + j = p := ⟨_, rfl⟩
                rw [hpp] at hset hsame hc1 hc2 hp1 hpa HO
                have hp2 : ¬ (((m : Int) + 1) * ((m : Int) + 1) ≤ (p : Int)) := by push_cast at hp1; omega
                have hrw : IntKind.i64.wrap (r : Int) = (r : Int) := by rw [IntKind.wrap_i64]; omega
                have hpw : IntKind.i64.wrap (p : Int) = (p : Int) := by rw [IntKind.wrap_i64]; omega
                have HRM := Lib.hid hrm
                have HRW := Lib.hid hrw
                have HPA := Lib.hid hpa
                have HPB := Lib.hid hpw
                have HSET := Lib.hid hset
                have HSAME := Lib.hid hsame
                have HC1 := Lib.hid hc1
                have HPJ := Lib.hid (show i * (m + 1) + (j + 1) = p + 1 by omega)
                have k1 := hc1 _ (Below.refl _ _)
                have k2 := hc2 _ (Below.refl _ _)
                have a1 := addr_lit0 g p
                have a2 := addr_lit0 g2 p
                obtain ⟨x0, x1⟩ := HG.out.k2
                obtain ⟨z0, z1⟩ := HNB.out.k2
                clear hsq hp1 hset hsame hc1 hc2 hpp hrr
                by_cases hyy : y2 ≤ y1
                · have dy : decide (y1 < y2) = false := decide_eq_false (by omega)
                  have hxe : y1 = x := by rw [hwi, if_pos hyy]
                  have HS2 := Lib.hid (HSAME.out hxe)
                  have hny : ¬ y1 < y2 := by omega
                  clear hwi hxe
                  go_wp2_with fail
                  go_quiet (fail)
                  have hdn := below_drewN wr nq
                  have HO2 := Lib.hid (show Own (wr.drewN nq) w5.heap.size (.slice (some ⟨g, 0, none⟩) ((m + 1) * (m + 1)) c4) ((m + 1) * (m + 1)) (mixL (m + 1) (wiB (m + 1) a l2) (gt (m + 1) a) (i * (m + 1) + (j + 1))) from by rw [HPJ.out, HS2.out]; exact HO.out.keep hdn)
                  have HQ2 := Lib.hid (show Own (wr.drewN nq) (B9) (.slice (some ⟨g2, 0, none⟩) ((m + 1) * (m + 1)) c5) ((m + 1) * (m + 1)) l2 from HQ.out.keep hdn)
                  have HBE2 := Lib.hid (HBE.out.trans (hdn.mono HBE.out.size))
                  have HRB2 := Lib.hid (HRB.out.below hdn)
                  have HG2 := Lib.hid (HG.out.below hdn)
                  have HNB2 := Lib.hid (HNB.out.below hdn)
                  clear HO HQ HBE HRB HG HNB hdn k1 k2 x0 x1 z0 z1 HSET HSAME HS2 HC1 HFU
                  go_wp2_with fail
                  go_roundw
                  case rel => exact ⟨j + 1, by omega, by go_num, HO2, HQ2, HBE2, HRB2, HG2, HNB2.out⟩
                  case measure => simp [intOf]; omega
                · have dy : decide (y1 < y2) = true := decide_eq_true (by omega)
                  have hxe : f = x := by rw [hwi, if_neg hyy]
                  subst hxe
                  clear hwi hyy
                  go_wp2_with fail
                  go_quiet (fail)
                  have hdn := below_drewN wr nq
                  have HO2 := Lib.hid (show Own (wr.drewN nq) w5.heap.size (.slice (some ⟨g, 0, none⟩) ((m + 1) * (m + 1)) c4) ((m + 1) * (m + 1)) (mixL (m + 1) (wiB (m + 1) a l2) (gt (m + 1) a) p) from HO.out.keep hdn)
                  have HQ2 := Lib.hid (show Own (wr.drewN nq) (B9) (.slice (some ⟨g2, 0, none⟩) ((m + 1) * (m + 1)) c5) ((m + 1) * (m + 1)) l2 from HQ.out.keep hdn)
                  have HBE2 := Lib.hid (HBE.out.trans (hdn.mono HBE.out.size))
                  have HRB2 := Lib.hid (HRB.out.below hdn)
                  have HG2 := Lib.hid (HG.out.below hdn)
                  have HNB2 := Lib.hid (HNB.out.below hdn)
                  have HC2 := Lib.hid (fun w6 (h6 : Below (wr.drewN nq).heap.size (wr.drewN nq) w6) => HC1.out w6 (hdn.trans (h6.mono hdn.size)))
                  clear HO HQ HBE HRB HG HNB hdn k1 k2 x0 x1 z0 z1 HSAME HC1
                  generalize wr.drewN nq = w8 at *
                  go_wp2_with fail
                  refine region_inv (n := 99) (RdG (fun zz => match zz with | 0 => .pointer (some ⟨nb, 1, none⟩) | 1 => .slice (some ⟨g, 0, none⟩) ((m + 1) * (m + 1)) c4 | 2 => .int .i64 (i : Int) | 3 => .int .i64 ((m : Int) + 1) | 4 => .int .i64 (r : Int) | 5 => .int .i64 (j : Int) | 6 => .int .i64 (p : Int) | 7 => .int .i64 (i : Int) | 8 => .int .i64 (j : Int) | 9 => .int .i64 f | 10 => .pointer (some ⟨g, p, none⟩) | _ => undef) 11 (w8) (⟨g, p, none⟩) (.int .i64 f)) (by kernel_rfl) (by kernel_rfl) rfl ?_ (allOps_spec ?_) ?_
                  · intro vs
                    exact RdG.start
                  · refine ⟨?_, ?_, ?_, ?_, ?_, ?_, ?_, ?_, ?_, ?_, ?_, ?_, trivial⟩
                    · intro L vs a w6 hB hL hd hI
                      have b11 : a.tmps[11]?.getD undef = .pointer (some ⟨nb, 0, none⟩) := hB.at 11 (by kernel_rfl)
                      have hx : Below (w8).heap.size (w8) w6 := hI.ext (hB.wait 0 11 hL (by kernel_rfl))
                      exact stepI_run (v := .pointer (some ⟨nb, 1, none⟩)) rfl (by simp [execOp, go_sem, Act.eval, b11]) (hI.step 0 (by decide) rfl)
                    · intro L vs a w6 hB hL hd hI
                      have b87 : a.tmps[87]?.getD undef = .pointer (some ⟨nb, 1, none⟩) := (hB.val 0 (hd ⟨0, .data⟩ (by simp) rfl) 87 rfl).trans (hI.1 0 (by decide) (hd ⟨0, .data⟩ (by simp) rfl))
                      have hx : Below (w8).heap.size (w8) w6 := hI.ext (hB.wait 1 11 hL (by kernel_rfl))
                      have q1 := (HNB2.out.below hx).cell 1
                      exact stepI_run (v := .slice (some ⟨g, 0, none⟩) ((m + 1) * (m + 1)) c4) rfl (by simp [execOp, go_sem, Act.eval, b87, q1]) (hI.step 1 (by decide) rfl)
                    · intro L vs a w6 hB hL hd hI
                      have b12 : a.tmps[12]?.getD undef = .int .i64 (i : Int) := hB.at 12 (by kernel_rfl)
                      have hx : Below (w8).heap.size (w8) w6 := hI.ext (hB.wait 2 11 hL (by kernel_rfl))
                      exact stepI_run (v := .int .i64 (i : Int)) rfl (by simp [execOp, go_sem, Act.eval, b12]) (hI.step 2 (by decide) rfl)
                    · intro L vs a w6 hB hL hd hI
                      have b10 : a.tmps[10]?.getD undef = .int .i64 ((m : Int) + 1) := hB.at 10 (by kernel_rfl)
                      have hx : Below (w8).heap.size (w8) w6 := hI.ext (hB.wait 3 11 hL (by kernel_rfl))
                      exact stepI_run (v := .int .i64 ((m : Int) + 1)) rfl (by simp [execOp, go_sem, Act.eval, b10]) (hI.step 3 (by decide) rfl)
                    · intro L vs a w6 hB hL hd hI
                      have b89 : a.tmps[89]?.getD undef = .int .i64 (i : Int) := (hB.val 2 (hd ⟨2, .data⟩ (by simp) rfl) 89 rfl).trans (hI.1 2 (by decide) (hd ⟨2, .data⟩ (by simp) rfl))
                      have b90 : a.tmps[90]?.getD undef = .int .i64 ((m : Int) + 1) := (hB.val 3 (hd ⟨3, .data⟩ (by simp) rfl) 90 rfl).trans (hI.1 3 (by decide) (hd ⟨3, .data⟩ (by simp) rfl))
                      have hx : Below (w8).heap.size (w8) w6 := hI.ext (hB.wait 4 11 hL (by kernel_rfl))
                      exact stepI_run (v := .int .i64 (r : Int)) rfl (by simp [execOp, go_sem, Act.eval, b89, b90, HRM.out, HRW.out]) (hI.step 4 (by decide) rfl)
                    · intro L vs a w6 hB hL hd hI
                      have b13 : a.tmps[13]?.getD undef = .int .i64 (j : Int) := hB.at 13 (by kernel_rfl)
                      have hx : Below (w8).heap.size (w8) w6 := hI.ext (hB.wait 5 11 hL (by kernel_rfl))
                      exact stepI_run (v := .int .i64 (j : Int)) rfl (by simp [execOp, go_sem, Act.eval, b13]) (hI.step 5 (by decide) rfl)
                    · intro L vs a w6 hB hL hd hI
                      have b91 : a.tmps[91]?.getD undef = .int .i64 (r : Int) := (hB.val 4 (hd ⟨4, .data⟩ (by simp) rfl) 91 rfl).trans (hI.1 4 (by decide) (hd ⟨4, .data⟩ (by simp) rfl))
                      have b92 : a.tmps[92]?.getD undef = .int .i64 (j : Int) := (hB.val 5 (hd ⟨5, .data⟩ (by simp) rfl) 92 rfl).trans (hI.1 5 (by decide) (hd ⟨5, .data⟩ (by simp) rfl))
                      have hx : Below (w8).heap.size (w8) w6 := hI.ext (hB.wait 6 11 hL (by kernel_rfl))
                      exact stepI_run (v := .int .i64 (p : Int)) rfl (by simp [execOp, go_sem, Act.eval, b91, b92, HPA.out, HPB.out]) (hI.step 6 (by decide) rfl)
                    · intro L vs a w6 hB hL hd hI
                      have b12 : a.tmps[12]?.getD undef = .int .i64 (i : Int) := hB.at 12 (by kernel_rfl)
                      have hx : Below (w8).heap.size (w8) w6 := hI.ext (hB.wait 7 11 hL (by kernel_rfl))
                      exact stepI_run (v := .int .i64 (i : Int)) rfl (by simp [execOp, go_sem, Act.eval, b12]) (hI.step 7 (by decide) rfl)
                    · intro L vs a w6 hB hL hd hI
                      have b13 : a.tmps[13]?.getD undef = .int .i64 (j : Int) := hB.at 13 (by kernel_rfl)
                      have hx : Below (w8).heap.size (w8) w6 := hI.ext (hB.wait 8 11 hL (by kernel_rfl))
                      exact stepI_run (v := .int .i64 (j : Int)) rfl (by simp [execOp, go_sem, Act.eval, b13]) (hI.step 8 (by decide) rfl)
                    · intro L vs a w6 hB hL hd hI
                      have b94 : a.tmps[94]?.getD undef = .int .i64 (i : Int) := (hB.val 7 (hd ⟨7, .data⟩ (by simp) rfl) 94 rfl).trans (hI.1 7 (by decide) (hd ⟨7, .data⟩ (by simp) rfl))
                      have b95 : a.tmps[95]?.getD undef = .int .i64 (j : Int) := (hB.val 8 (hd ⟨8, .data⟩ (by simp) rfl) 95 rfl).trans (hI.1 8 (by decide) (hd ⟨8, .data⟩ (by simp) rfl))
                      have hx : Below (w8).heap.size (w8) w6 := hI.ext (hB.wait 9 11 hL (by kernel_rfl))
                      refine stepI_call (f := 48) (args := #[.int .i64 (i : Int), .int .i64 (j : Int)]) rfl (by simp [go_sem, b94, b95]) ?_
                      refine (HFU.out w6).mono ?_
                      rintro e w9 ⟨rfl, h9⟩
                      exact ⟨_, rfl, hI.grow (hB.wait 9 11 hL (by kernel_rfl)) 9 (by decide) h9 rfl⟩
                    · intro L vs a w6 hB hL hd hI
                      have b88 : a.tmps[88]?.getD undef = .slice (some ⟨g, 0, none⟩) ((m + 1) * (m + 1)) c4 := (hB.val 1 (hd ⟨1, .data⟩ (by simp) rfl) 88 rfl).trans (hI.1 1 (by decide) (hd ⟨1, .data⟩ (by simp) rfl))
                      have b93 : a.tmps[93]?.getD undef = .int .i64 (p : Int) := (hB.val 6 (hd ⟨6, .data⟩ (by simp) rfl) 93 rfl).trans (hI.1 6 (by decide) (hd ⟨6, .data⟩ (by simp) rfl))
                      have hx : Below (w8).heap.size (w8) w6 := hI.ext (hB.wait 10 11 hL (by kernel_rfl))
                      exact stepI_run (v := .pointer (some ⟨g, p, none⟩)) rfl (by simp [execOp, go_sem, Act.eval, b88, b93, hp2, addr_lit0]) (hI.step 10 (by decide) rfl)
                    · intro L vs a w6 hB hL hd hI
                      have b97 : a.tmps[97]?.getD undef = .pointer (some ⟨g, p, none⟩) := (hB.val 10 (hd ⟨10, .data⟩ (by simp) rfl) 97 rfl).trans (hI.1 10 (by decide) (hd ⟨10, .data⟩ (by simp) rfl))
                      have b96 : a.tmps[96]?.getD undef = .int .i64 f := (hB.val 9 (hd ⟨9, .data⟩ (by simp) rfl) 96 rfl).trans (hI.1 9 (by decide) (hd ⟨9, .data⟩ (by simp) rfl))
                      have hx : Below (w8).heap.size (w8) w6 := hI.ext hL
                      have f1 := (HO2.out.keep hx).frozenAt p
                      have q1 := HC2.out w6 hx
                      exact stepI_skip (w' := w6.setCell (⟨g, p, none⟩) (.int .i64 f)) rfl (by simp [execOp, go_sem, Act.eval, b97, b96, f1, q1]) (hI.put hL)
                  · intro L vs w7 hall hI
                    obtain ⟨w6, HEXT, hw7⟩ := hI.fin (hall 11 (by decide))
                    subst hw7
                    clear hI hall
                    simp only [putAll, Act.put, List.setIfInBounds_toArray, List.set_cons_zero, List.set_cons_succ, Nat.zero_add, Nat.reduceAdd]
                    have HO3 := Lib.hid (show Own (w6.setCell ⟨g, p, none⟩ (.int .i64 f)) w5.heap.size (.slice (some ⟨g, 0, none⟩) ((m + 1) * (m + 1)) c4) ((m + 1) * (m + 1)) (mixL (m + 1) (wiB (m + 1) a l2) (gt (m + 1) a) (i * (m + 1) + (j + 1))) from by
                      have h1 := own_upd (p := p) (x := f) HO2.out HEXT.out
                      rw [HSET.out] at h1
                      rw [HPJ.out]; exact h1)
                    have HQ3 := Lib.hid (Own.other (k := g) (i := p) (y := .int .i64 f) (show Own w6 (B9) (.slice (some ⟨g2, 0, none⟩) ((m + 1) * (m + 1)) c5) ((m + 1) * (m + 1)) l2 from HQ2.out.keep HEXT.out) (by intro e; simp [Value.ownBlock] at e; omega))
                    have HBE3 := Lib.hid ((HBE2.out.trans (HEXT.out.mono HBE2.out.size)).setCell (p := ⟨g, p, none⟩) (by show w.heap.size ≤ g; omega) (.int .i64 f))
                    have HRB3 := Lib.hid ((HRB2.out.below HEXT.out).other (c := g) (i := p) (u := .int .i64 f) (by omega))
                    have HG3 := Lib.hid ((HG2.out.below HEXT.out).other (c := g) (i := p) (u := .int .i64 f) (by omega))
                    have HNB3 := Lib.hid ((HNB2.out.below HEXT.out).other (c := g) (i := p) (u := .int .i64 f) (by omega))
                    clear HEXT HO2 HQ2 HBE2 HRB2 HG2 HNB2 HSET HC2 HFU
                    go_wp2_with fail
                    go_roundw
                    case rel => exact ⟨j + 1, by omega, by go_num, HO3, HQ3, HBE3, HRB3, HG3, HNB3.out⟩
                    case measure => simp [intOf]; omega
              · obtain rfl : j = m + 1 := by omega
                have HO2 := Lib.hid (show Own wr w5.heap.size (.slice (some ⟨g, 0, none⟩) ((m + 1) * (m + 1)) c4) ((m + 1) * (m + 1)) (mixL (m + 1) (wiB (m + 1) a l2) (gt (m + 1) a) ((i + 1) * (m + 1))) from by rw [show (i + 1) * (m + 1) = i * (m + 1) + (m + 1) from Nat.succ_mul _ _]; exact HO.out)
                clear HO
                go_wp2_with fail
                go_roundw
                case rel => exact ⟨i + 1, by omega, by go_num, HO2, HQ, HBE, HRB, HG, HNB.out⟩
                case measure => simp [intOf]; omega
          · obtain rfl : i = m + 1 := by omega
            have HO2 := Lib.hid (show Own wr w5.heap.size (.slice (some ⟨g, 0, none⟩) ((m + 1) * (m + 1)) c4) ((m + 1) * (m + 1)) (flat (m + 1) (wiB (m + 1) a l2)) from by rw [← mix_all]; exact HO.out)
            obtain ⟨x0, x1⟩ := HNB.out.k2
            obtain ⟨y0, y1⟩ := HRB.out.k2
            obtain ⟨f0, f1⟩ := HRB.out.f2
            clear HO
            go_wp2_with fail
            refine bodyPost_ret (v := .tuple #[.agg #[.int .i64 (m : Int), .slice (some ⟨g, 0, none⟩) ((m + 1) * (m + 1)) c4], .int .i64 0]) (bx_ret2 ((HRB.out.set 0 _).set 1 _) Try.results34 _ rfl Try.underlying24 rfl (by kernel_rfl)) rfl ?_
            exact zp_fin HR.out (by omega) HBE.out (by omega) HO2.out (by
              intro e
              have e2 : g = w.heap.size + 2 := by simpa [Value.ownBlock] using e
              omega)
end Go.Proofs.Ytepeeeiekeppjaa
