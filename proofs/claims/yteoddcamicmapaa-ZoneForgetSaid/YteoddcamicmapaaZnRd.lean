/- Layer 13: the reference's known, Same, Add and Implies (tools/gen_zd.py). -/
import Derived.Test.YteoddcamicmapaaZnRc
import Derived.Test.YteoddcamicmapaaZnIm
import Derived.Deep.QuietTactic
import Derived.BigQuiet
namespace Go.Proofs.Yteoddcamicmapaa
open Go.RowKit

theorem rknown_any (N x : Int) (v : Value) (w : World) : Calls Try.prog 44 #[.agg #[.int .i64 N, v], .int .i64 x] w (Tells w (.bool (knB N x))) := by
  unfold knB
  by_cases h1 : -1 ≤ x
  · by_cases h2 : x < N
    · rw [decide_eq_true ⟨h1, h2⟩]
      go_enter Try.func44, Try.ntmps44
      go_wp2
      go_ret
      exact Tells.of (al1 w _)
    · rw [decide_eq_false (fun h => h2 h.2)]
      go_enter Try.func44, Try.ntmps44
      go_wp2
      go_ret
      exact Tells.of (al1 w _)
  · rw [decide_eq_false (fun h => h1 h.1)]
    go_enter Try.func44, Try.ntmps44
    go_wp2
    go_ret
    exact Tells.of (al1 w _)
theorem take_eq {a b : List Int} {k : Nat} (ha : k < a.length) (hb : k < b.length) (h : a.take k = b.take k) (e : a[k] = b[k]) : a.take (k + 1) = b.take (k + 1) := by
  rw [List.take_succ_eq_append_getElem ha, List.take_succ_eq_append_getElem hb, h, e]
set_option maxHeartbeats 400000 in
theorem rsame_any (N M : Int) (v u : Value) (a b : List Int) (w : World) (h : Sl iv w v a) (hl : a.length ≤ 9223372036854775807) (h2 : Sl iv w u b) :
    Calls Try.prog 19 #[.agg #[.int .i64 N, v], .agg #[.int .i64 M, u]] w (Tells w (.bool (decide (N = M ∧ a = b)))) := by
  obtain ⟨A, c, rfl⟩ := h.shape
  obtain ⟨A2, c2, rfl⟩ := h2.shape
  have H0 := Lib.hid h
  have H02 := Lib.hid h2
  have H := Lib.hid (h.below (al2 w (.cells #[.int .i64 N, .slice A a.length c] 24) (.cells #[.int .i64 M, .slice A2 b.length c2] 24)))
  have H2 := Lib.hid (h2.below (al2 w (.cells #[.int .i64 N, .slice A a.length c] 24) (.cells #[.int .i64 M, .slice A2 b.length c2] 24)))
  clear h h2
  obtain ⟨R, hR⟩ : ∃ R, R = decide (N = M ∧ a = b) := ⟨_, rfl⟩
  rw [← hR]
  have HR := Lib.hid hR
  clear hR
  by_cases hN : N = M
  rotate_left
  · have hr := HR.out.trans (decide_eq_false fun h => hN h.1)
    subst hr
    have hne : (N != M) = true := by rw [bne_iff_ne]; exact hN
    clear hN HR
    go_enter Try.func19, Try.ntmps19
    go_wp2
    go_ret
    exact Tells.of (al2 w _ _)
  subst hN
  have hne : (N != N) = false := by rw [bne_eq_false_iff_eq]
  by_cases hL : a.length = b.length
  rotate_left
  · have hr := HR.out.trans (decide_eq_false fun h => hL (by rw [h.2]))
    subst hr
    have hne2 : ((a.length : Int) != (b.length : Int)) = true := by rw [bne_iff_ne]; omega
    clear hL HR
    go_enter Try.func19, Try.ntmps19
    go_wp2
    go_ret
    exact Tells.of (al2 w _ _)
  have HR2 := Lib.hid (show R = decide (a = b) from by rw [HR.out]; simp)
  clear HR
  have HR := HR2
  clear HR2
  have hne2 : ((a.length : Int) != (a.length : Int)) = false := by rw [bne_eq_false_iff_eq]
  have Hl := Lib.hid hL
  rw [← hL] at H H2 H02 ⊢
  clear hL
  go_enter Try.func19, Try.ntmps19
  go_wp2_with fail
  go_loopw [5] (fun zz wr => ∃ k : Nat, k ≤ a.length ∧ zz = .int .i64 k ∧ Hid (a.take k = b.take k) ∧ Hid (Below w.heap.size w wr) ∧ Hid (Bx wr w.heap.size 24 #[.int .i64 N, .slice A a.length c]) ∧ Bx wr (w.heap.size + 1) 24 #[.int .i64 N, .slice A2 a.length c2]) (fun i _ => a.length - (intOf i).toNat)
  case atStart => exact ⟨0, Nat.zero_le _, rfl, Lib.hid rfl, Lib.hid (al2 w _ _), Lib.hid (heap_alloc_2 w _ _), heap_alloc_2' w _ _⟩
  case round =>
    clear H H2
    obtain ⟨k, hk, rfl, Hall, HB, HX, hy⟩ := hrel
    have HY := Lib.hid hy
    obtain ⟨x0, x1⟩ := HX.out.k2
    obtain ⟨y0, y1⟩ := HY.out.k2
    clear hy
    by_cases hlt : k < a.length
    · obtain ⟨ad, c', hs, hcap, hcell⟩ := sl_cell (H0.out.below HB.out) k hlt
      simp only [Value.slice.injEq, true_and] at hs
      obtain ⟨rfl, rfl⟩ := hs
      obtain ⟨ad2, c2', hs2, hcap2, hcell2⟩ := sl_cell (H02.out.below HB.out) k (by have := Hl.out; omega)
      simp only [Value.slice.injEq] at hs2
      obtain ⟨rfl, hl3, rfl⟩ := hs2
      clear hl3
      have hlt2 : k < b.length := by have := Hl.out; omega
      have Hn := Lib.hid (fun e => take_eq hlt hlt2 Hall.out e)
      have Hb := Lib.hid (show a[k] ≠ b[k] → R = false from fun e => HR.out.trans (decide_eq_false fun h => e (by simp only [h])))
      generalize a[k] = x at *
      generalize b[k] = y at *
      unfold iv at hcell hcell2
      by_cases hx : x = y
      · have Hn2 := Lib.hid (Hn.out hx)
        have hxy : (x != y) = false := by rw [bne_eq_false_iff_eq]; exact hx
        clear Hn Hb hx
        go_wp2_with fail
        go_quiet (fail)
        have HB2 := Lib.hid (HB.out.trans ((below_drewN wr nq).mono HB.out.size))
        have HX2 := Lib.hid (HX.out.below (below_drewN wr nq))
        have HY2 := Lib.hid (HY.out.below (below_drewN wr nq))
        clear HB HX HY x0 x1 y0 y1 hcell hcell2
        go_wp2_with fail
        go_roundw
        case rel => exact ⟨k + 1, by omega, by go_num, Hn2, HB2, HX2, HY2.out⟩
        case measure => simp [intOf]; omega
      · have hr := Hb.out hx
        subst hr
        have hxy : (x != y) = true := by rw [bne_iff_ne]; exact hx
        clear hx Hn Hb
        go_wp2_with fail
        go_quiet (fail)
        have HB2 := Lib.hid (HB.out.trans ((below_drewN wr nq).mono HB.out.size))
        clear HB HX HY x0 x1 y0 y1 hcell hcell2
        go_wp2_with fail
        go_ret
        exact Tells.of HB2.out
    · have hr := HR.out.trans (decide_eq_true (by
        have h9 := Hall.out
        have h8 := Hl.out
        rw [List.take_of_length_le (by omega), List.take_of_length_le (by omega)] at h9
        exact h9))
      subst hr
      go_wp2_with fail
      go_ret
      exact Tells.of HB.out
set_option maxRecDepth 20000 in
set_option maxHeartbeats 1000000 in
theorem radd_any (N X Y C : Int) (v : Value) (b : List Int) (w : World) (h : Sl iv w v b) (hl : b.length ≤ 9223372036854775807) :
    Calls Try.prog 16 #[.agg #[.int .i64 N, v], .agg #[.int .i64 X, .int .i64 Y, .int .i64 C]] w (ZP w (addZ N b X Y C)) := by
  obtain ⟨A, c, rfl⟩ := h.shape
  have H := Lib.hid h
  clear h
  cases hp : zvB N b with
  | false =>
    have HR := Lib.hid (addZ_bad (X := X) (Y := Y) (C := C) hp)
    have Hp := Lib.hid hp
    clear hp
    go_enter Try.func16, Try.ntmps16
    go_wp2_with fail
    refine (rvalid_any N _ b _ (H.out.below (al3 w _ _ _)) hl).mono ?_; rintro e w1 ⟨rfl, hb⟩; rw [Hp.out]
    obtain ⟨-, -, HY, HB⟩ := three_boxes rfl rfl rfl hb
    obtain ⟨y0, y1⟩ := HY.out.k2
    obtain ⟨f0, f1⟩ := HY.out.f2
    clear hb
    go_wp2_with fail
    refine bodyPost_ret (v := .tuple #[.agg #[.int .i64 0, .slice none 0 0], .int .i64 1]) (bx_ret2 ((HY.out.set 0 _).set 1 _) Try.results16 _ rfl Try.underlying24 rfl (by kernel_rfl)) rfl ?_
    exact zp_zero HR.out (by omega) HB.out
  | true =>
    obtain ⟨m, rfl, hm, hlen, hz⟩ := zv_nat hp
    have HLN := Lib.hid hlen
    have hb0 : 0 < b.length := by rw [hlen]; exact Nat.mul_pos (by omega) (by omega)
    have hb1 : b.length ≤ 1000000000 := by rw [hlen]; exact Nat.le_trans (Nat.mul_le_mul (by omega : m + 1 ≤ 25) (by omega : m + 1 ≤ 25)) (by decide)
    clear hlen hz
    have Hp := Lib.hid hp
    cases hx : knB (m : Int) X with
    | false =>
      have HR := Lib.hid (addZ_out (C := C) hp (show (knB (m : Int) X && knB (m : Int) Y) = false from by rw [hx]; rfl))
      have Hx := Lib.hid hx
      clear hp hx
      go_enter Try.func16, Try.ntmps16
      go_wp2_with fail
      refine (rvalid_any m _ b _ (H.out.below (al3 w _ _ _)) hl).mono ?_; rintro e w1 ⟨rfl, hb⟩; rw [Hp.out]
      obtain ⟨HX, HD, HY, HB⟩ := three_boxes rfl rfl rfl hb
      obtain ⟨x0, x1⟩ := HX.out.k2
      obtain ⟨d0, d1, d2⟩ := HD.out.k3
      clear hb
      go_wp2_with fail
      refine (rknown_any m X _ _).mono ?_; rintro e w2 ⟨rfl, hb⟩; rw [Hx.out]
      have HB2 := Lib.hid (HB.out.trans (hb.mono HB.out.size))
      have HY2 := Lib.hid (HY.out.below hb)
      obtain ⟨y0, y1⟩ := HY2.out.k2
      obtain ⟨f0, f1⟩ := HY2.out.f2
      clear hb x0 x1 d0 d1 d2
      go_wp2_with fail
      refine bodyPost_ret (v := .tuple #[.agg #[.int .i64 0, .slice none 0 0], .int .i64 2]) (bx_ret2 ((HY2.out.set 0 _).set 1 _) Try.results16 _ rfl Try.underlying24 rfl (by kernel_rfl)) rfl ?_
      exact zp_zero HR.out (by omega) HB2.out
    | true =>
      cases hy : knB (m : Int) Y with
      | false =>
        have HR := Lib.hid (addZ_out (C := C) hp (show (knB (m : Int) X && knB (m : Int) Y) = false from by rw [hx, hy]; rfl))
        have Hx := Lib.hid hx
        have Hy := Lib.hid hy
        clear hp hx hy
        go_enter Try.func16, Try.ntmps16
        go_wp2_with fail
        refine (rvalid_any m _ b _ (H.out.below (al3 w _ _ _)) hl).mono ?_; rintro e w1 ⟨rfl, hb⟩; rw [Hp.out]
        obtain ⟨HX, HD, HY, HB⟩ := three_boxes rfl rfl rfl hb
        obtain ⟨x0, x1⟩ := HX.out.k2
        obtain ⟨d0, d1, d2⟩ := HD.out.k3
        clear hb
        go_wp2_with fail
        refine (rknown_any m X _ _).mono ?_; rintro e w2 ⟨rfl, hb⟩; rw [Hx.out]
        have HB2 := Lib.hid (HB.out.trans (hb.mono HB.out.size))
        have HX2 := Lib.hid (HX.out.below hb)
        have HD2 := Lib.hid (HD.out.below hb)
        have HY2 := Lib.hid (HY.out.below hb)
        clear hb x0 x1 d0 d1 d2 HB HX HD HY
        obtain ⟨x0, x1⟩ := HX2.out.k2
        obtain ⟨d0, d1, d2⟩ := HD2.out.k3
        go_wp2_with fail
        refine (rknown_any m Y _ _).mono ?_; rintro e w3 ⟨rfl, hb⟩; rw [Hy.out]
        have HB3 := Lib.hid (HB2.out.trans (hb.mono HB2.out.size))
        have HY3 := Lib.hid (HY2.out.below hb)
        obtain ⟨y0, y1⟩ := HY3.out.k2
        obtain ⟨f0, f1⟩ := HY3.out.f2
        clear hb x0 x1 d0 d1 d2
        go_wp2_with fail
        refine bodyPost_ret (v := .tuple #[.agg #[.int .i64 0, .slice none 0 0], .int .i64 2]) (bx_ret2 ((HY3.out.set 0 _).set 1 _) Try.results16 _ rfl Try.underlying24 rfl (by kernel_rfl)) rfl ?_
        exact zp_zero HR.out (by omega) HB3.out
      | true =>
        have hk2 := hx
        have hk3 := hy
        unfold knB at hk2 hk3
        rw [decide_eq_true_iff] at hk2 hk3
        obtain ⟨i, rfl⟩ : ∃ i : Nat, X = (i : Int) - 1 := ⟨(X + 1).toNat, by omega⟩
        obtain ⟨j, rfl⟩ : ∃ j : Nat, Y = (j : Int) - 1 := ⟨(Y + 1).toNat, by omega⟩
        have hi : i ≤ m := by omega
        have hj : j ≤ m := by omega
        have HR := Lib.hid (addZ_in (C := C) hp (show (knB (m : Int) ((i : Int) - 1) && knB (m : Int) ((j : Int) - 1)) = true from by rw [hx, hy]; rfl))
        have Hx := Lib.hid hx
        have Hy := Lib.hid hy
        have hi1 : (i : Int) - 1 + 1 = i := by omega
        clear hp hx hy hk2 hk3
        go_enter Try.func16, Try.ntmps16
        go_wp2_with fail
        refine (rvalid_any m _ b _ (H.out.below (al3 w _ _ _)) hl).mono ?_; rintro e w1 ⟨rfl, hb⟩; rw [Hp.out]
        obtain ⟨HX, HD, HY, HB⟩ := three_boxes rfl rfl rfl hb
        obtain ⟨x0, x1⟩ := HX.out.k2
        obtain ⟨d0, d1, d2⟩ := HD.out.k3
        clear hb
        go_wp2_with fail
        refine (rknown_any m _ _ _).mono ?_; rintro e w2 ⟨rfl, hb⟩; rw [Hx.out]
        have HB2 := Lib.hid (HB.out.trans (hb.mono HB.out.size))
        have HX2 := Lib.hid (HX.out.below hb)
        have HD2 := Lib.hid (HD.out.below hb)
        have HY2 := Lib.hid (HY.out.below hb)
        clear hb x0 x1 d0 d1 d2 HB HX HD HY
        obtain ⟨x0, x1⟩ := HX2.out.k2
        obtain ⟨d0, d1, d2⟩ := HD2.out.k3
        go_wp2_with fail
        refine (rknown_any m _ _ _).mono ?_; rintro e w3 ⟨rfl, hb⟩; rw [Hy.out]
        have HB3 := Lib.hid (HB2.out.trans (hb.mono HB2.out.size))
        have HX3 := Lib.hid (HX2.out.below hb)
        have HD3 := Lib.hid (HD2.out.below hb)
        have HY3 := Lib.hid (HY2.out.below hb)
        clear hb x0 x1 d0 d1 d2 HB2 HX2 HD2 HY2
        go_wp2_with fail
        refine region_inv (n := 59) (CpI (w3) 24 (w.heap.size) (.int .i64 (m : Int)) (.slice A b.length c) (b)) (by kernel_rfl) (by kernel_rfl) rfl ?_ (allOps_spec ?_) ?_
        · intro vs
          exact CpI.start
        · refine ⟨?_, ?_, ?_, ?_, ?_, ?_, ?_, ?_, ?_, trivial⟩
          · intro L vs a w6 hB hL hd hI
            have b0 : a.tmps[2]?.getD undef = .pointer (some ⟨w.heap.size, 0, none⟩) := hB.at 2 (by kernel_rfl)
            exact stepI_run (v := .pointer (some ⟨w.heap.size, 0, none⟩)) rfl (by simp [execOp, go_sem, Act.eval, b0]) hI.t0
          · intro L vs a w6 hB hL hd hI
            have b0 : a.tmps[27]?.getD undef = .pointer (some ⟨w.heap.size, 0, none⟩) := (hB.val 0 (hd ⟨0, .data⟩ (by simp) rfl) 27 rfl).trans (hI.q0 (hd ⟨0, .data⟩ (by simp) rfl))
            have q0 := (Bx.below HX3.out hI.bel).cell 0
            exact stepI_run (v := .int .i64 (m : Int)) rfl (by simp [execOp, go_sem, Act.eval, b0, q0]) hI.t1
          · intro L vs a w6 hB hL hd hI
            have h5 : L 5 = false := hB.wait 2 5 hL (by kernel_rfl)
            exact stepI_run (v := .slice (some ⟨w6.heap.size, 0, none⟩) 0 0) rfl (by simp [execOp, go_sem, Act.eval]) (hI.t2 h5)
          · intro L vs a w6 hB hL hd hI
            have b0 : a.tmps[2]?.getD undef = .pointer (some ⟨w.heap.size, 0, none⟩) := hB.at 2 (by kernel_rfl)
            exact stepI_run (v := .pointer (some ⟨w.heap.size, 1, none⟩)) rfl (by simp [execOp, go_sem, Act.eval, b0]) hI.t3
          · intro L vs a w6 hB hL hd hI
            have b0 : a.tmps[30]?.getD undef = .pointer (some ⟨w.heap.size, 1, none⟩) := (hB.val 3 (hd ⟨3, .data⟩ (by simp) rfl) 30 rfl).trans (hI.q3 (hd ⟨3, .data⟩ (by simp) rfl))
            have q1 := (Bx.below HX3.out hI.bel).cell 1
            exact stepI_run (v := .slice A b.length c) rfl (by simp [execOp, go_sem, Act.eval, b0, q1]) hI.t4
          · intro L vs a w6 hB hL hd hI
            have h2 : L 2 = true := hd ⟨2, .data⟩ (by simp) rfl
            have b0 : a.tmps[29]?.getD undef = vs 2 := hB.val 2 h2 29 rfl
            have b1 : a.tmps[31]?.getD undef = .slice A b.length c := (hB.val 4 (hd ⟨4, .data⟩ (by simp) rfl) 31 rfl).trans (hI.q4 (hd ⟨4, .data⟩ (by simp) rfl))
            have h6 : L 6 = false := hB.wait 5 6 hL (by kernel_rfl)
            have h8 : L 8 = false := hB.wait 6 8 h6 (by kernel_rfl)
            exact stepI_cp hI (by kernel_rfl) info_int rfl rfl b0 b1 (H.out.below HB3.out) hb0 hb1 h2 hL h6 h8
          · intro L vs a w6 hB hL hd hI
            have h5 : L 5 = true := hd ⟨5, .data⟩ (by simp) rfl
            have b0 : a.tmps[28]?.getD undef = .int .i64 (m : Int) := (hB.val 1 (hd ⟨1, .data⟩ (by simp) rfl) 28 rfl).trans (hI.q1 (hd ⟨1, .data⟩ (by simp) rfl))
            obtain ⟨A9, c9, e9, -⟩ := hI.q5 h5
            have b1 : a.tmps[32]?.getD undef = .slice A9 (b).length c9 := (hB.val 5 h5 32 rfl).trans e9
            exact stepI_run (v := .agg #[.int .i64 (m : Int), vs 5]) rfl (by simp [execOp, go_sem, Act.eval, b0, b1, e9]) (hI.t6 h5)
          · intro L vs a w6 hB hL hd hI
            have h8 : L 8 = false := hB.wait 7 8 hL (by kernel_rfl)
            exact stepI_run (v := .pointer (some ⟨w6.heap.size, 0, none⟩)) (w' := w6.alloc (.cells #[.int .i64 0, .slice none 0 0] 24)) rfl (exec_alloc 24 rfl info_Zr) (hI.t7 h8)
          · intro L vs a w6 hB hL hd hI
            have h6 : L 6 = true := hd ⟨6, .data⟩ (by simp) rfl
            have h7 : L 7 = true := hd ⟨7, .data⟩ (by simp) rfl
            obtain ⟨h5, e6⟩ := hI.q6 h6
            obtain ⟨nb, h8v, hnb, hx, -⟩ := hI.q7 h7
            obtain ⟨A9, c9, e9, -⟩ := hI.q5 h5
            rw [hL, if_neg Bool.false_ne_true] at hx
            have b6 : a.tmps[6]?.getD undef = .pointer (some ⟨nb, 0, none⟩) := (hB.val 7 h7 6 rfl).trans h8v
            have b22 : a.tmps[33]?.getD undef = .agg #[.int .i64 (m : Int), vs 5] := (hB.val 6 h6 33 rfl).trans e6
            exact stepI_store_row rfl 24 6 33 rfl nb _ b6 b22 _ hx (by kernel_rfl) rfl (by rw [e9]; simp [Value.oneCell']) (hI.t8 h7 h5 h8v)
        · intro L vs w4 hall hI
          obtain ⟨nb, A4, c4, e6, hnb, hx4, ho4, hne4, hb4⟩ := hI.fin fun i hi => hall i hi
          clear hI hall
          simp only [putAll, Act.put, List.setIfInBounds_toArray, List.set_cons_zero, List.set_cons_succ, Nat.zero_add, Nat.reduceAdd, e6]
          clear e6
          obtain ⟨g, cap, hg, hg1, hg2, -⟩ := own_shape ho4 hb0
          simp only [Value.slice.injEq] at hg
          obtain ⟨rfl, -, rfl⟩ := hg
          have HGN := Lib.hid (show g ≠ nb from fun e => hne4 (by rw [e]; rfl))
          rw [HLN.out] at hx4 ho4
          have HNB := Lib.hid hx4
          have HO4 := Lib.hid (show Own w4 _ _ _ b from ho4)
          have HB4 := Lib.hid (HB3.out.trans (hb4.mono HB3.out.size))
          have HX4 := Lib.hid (HX3.out.below hb4)
          have HDB := Lib.hid (HD3.out.below hb4)
          have HY4 := Lib.hid (HY3.out.below hb4)
          have HS2 := Lib.hid (HB3.out.size)
          have hltY := HY3.out.lt
          clear hx4 ho4 hne4 hb4 HX3 HD3 HY3
          obtain ⟨x0, x1⟩ := HX4.out.k2
          obtain ⟨d0, d1, d2⟩ := HDB.out.k3
          have hsq := sq_lt (n := m + 1) (i := i) (j := j) (by omega) (by omega)
          have hmf := mul_few hm hi
          have hp1 : ((i * (m + 1) + j : Nat) : Int) < (((m + 1) * (m + 1) : Nat) : Int) := by omega
          have hc := own_gt HO4.out HLN.out (show i < m + 1 by omega) (show j < m + 1 by omega)
          have HAL := Lib.hid (show addL (m + 1) b i j C = b.set (i * (m + 1) + j) (min (gt (m + 1) b i j) (max C (-20001))) from rfl)
          obtain ⟨x, hx⟩ : ∃ x, x = min (gt (m + 1) b i j) (max C (-20001)) := ⟨_, rfl⟩
          rw [← hx] at HAL
          generalize gt (m + 1) b i j = y at *
          have hrm : (i : Int) * ((m : Int) + 1) = ((i * (m + 1) : Nat) : Int) := by push_cast; rfl
          generalize hrr : i * (m + 1) = r at *
          obtain ⟨p, hpp⟩ : ∃ p, r + j = p := ⟨_, rfl⟩
          rw [hpp] at hc HAL hp1
          have hpj : (r : Int) + ((j : Int) - 1) + 1 = (p : Int) := by omega
          have hp2 : ¬ (((m : Int) + 1) * ((m : Int) + 1) ≤ (p : Int)) := by push_cast at hp1; omega
          have HC := Lib.hid hc
          clear hsq hp1 hc
          go_wp2_with fail
          refine region_inv (n := 59) (RdG (fun zz => match zz with | 0 => .pointer (some ⟨nb, 1, none⟩) | 1 => .slice (some ⟨g, 0, none⟩) ((m + 1) * (m + 1)) c4 | 2 => .int .i64 (p : Int) | 3 => .pointer (some ⟨nb, 1, none⟩) | 4 => .slice (some ⟨g, 0, none⟩) ((m + 1) * (m + 1)) c4 | 5 => .int .i64 (p : Int) | 6 => .pointer (some ⟨g, p, none⟩) | 7 => .int .i64 y | 8 => .pointer (some ⟨w.heap.size + 1, 2, none⟩) | 9 => .int .i64 C | 10 => .int .i64 (max C (-20001)) | 11 => .int .i64 x | 12 => .pointer (some ⟨g, p, none⟩) | _ => undef) 13 (w4) (⟨g, p, none⟩) (.int .i64 x)) (by kernel_rfl) (by kernel_rfl) rfl ?_ (allOps_spec ?_) ?_
          · intro vs
            exact RdG.start
          · refine ⟨?_, ?_, ?_, ?_, ?_, ?_, ?_, ?_, ?_, ?_, ?_, ?_, ?_, ?_, trivial⟩
            · intro L vs a w6 hB hL hd hI
              have b6 : a.tmps[6]?.getD undef = .pointer (some ⟨nb, 0, none⟩) := hB.at 6 (by kernel_rfl)
              have hx : Below (w4).heap.size (w4) w6 := hI.ext (hB.wait 0 13 hL (by kernel_rfl))
              exact stepI_run (v := .pointer (some ⟨nb, 1, none⟩)) rfl (by simp [execOp, go_sem, Act.eval, b6]) (hI.step 0 (by decide) rfl)
            · intro L vs a w6 hB hL hd hI
              have b45 : a.tmps[45]?.getD undef = .pointer (some ⟨nb, 1, none⟩) := (hB.val 0 (hd ⟨0, .data⟩ (by simp) rfl) 45 rfl).trans (hI.1 0 (by decide) (hd ⟨0, .data⟩ (by simp) rfl))
              have hx : Below (w4).heap.size (w4) w6 := hI.ext (hB.wait 1 13 hL (by kernel_rfl))
              have q1 := (HNB.out.below hx).cell 1
              exact stepI_run (v := .slice (some ⟨g, 0, none⟩) ((m + 1) * (m + 1)) c4) rfl (by simp [execOp, go_sem, Act.eval, b45, q1]) (hI.step 1 (by decide) rfl)
            · intro L vs a w6 hB hL hd hI
              have b7 : a.tmps[7]?.getD undef = .int .i64 (p : Int) := hB.at 7 (by kernel_rfl)
              have hx : Below (w4).heap.size (w4) w6 := hI.ext (hB.wait 2 13 hL (by kernel_rfl))
              exact stepI_run (v := .int .i64 (p : Int)) rfl (by simp [execOp, go_sem, Act.eval, b7]) (hI.step 2 (by decide) rfl)
            · intro L vs a w6 hB hL hd hI
              have b6 : a.tmps[6]?.getD undef = .pointer (some ⟨nb, 0, none⟩) := hB.at 6 (by kernel_rfl)
              have hx : Below (w4).heap.size (w4) w6 := hI.ext (hB.wait 3 13 hL (by kernel_rfl))
              exact stepI_run (v := .pointer (some ⟨nb, 1, none⟩)) rfl (by simp [execOp, go_sem, Act.eval, b6]) (hI.step 3 (by decide) rfl)
            · intro L vs a w6 hB hL hd hI
              have b48 : a.tmps[48]?.getD undef = .pointer (some ⟨nb, 1, none⟩) := (hB.val 3 (hd ⟨3, .data⟩ (by simp) rfl) 48 rfl).trans (hI.1 3 (by decide) (hd ⟨3, .data⟩ (by simp) rfl))
              have hx : Below (w4).heap.size (w4) w6 := hI.ext (hB.wait 4 13 hL (by kernel_rfl))
              have q1 := (HNB.out.below hx).cell 1
              exact stepI_run (v := .slice (some ⟨g, 0, none⟩) ((m + 1) * (m + 1)) c4) rfl (by simp [execOp, go_sem, Act.eval, b48, q1]) (hI.step 4 (by decide) rfl)
            · intro L vs a w6 hB hL hd hI
              have b7 : a.tmps[7]?.getD undef = .int .i64 (p : Int) := hB.at 7 (by kernel_rfl)
              have hx : Below (w4).heap.size (w4) w6 := hI.ext (hB.wait 5 13 hL (by kernel_rfl))
              exact stepI_run (v := .int .i64 (p : Int)) rfl (by simp [execOp, go_sem, Act.eval, b7]) (hI.step 5 (by decide) rfl)
            · intro L vs a w6 hB hL hd hI
              have b49 : a.tmps[49]?.getD undef = .slice (some ⟨g, 0, none⟩) ((m + 1) * (m + 1)) c4 := (hB.val 4 (hd ⟨4, .data⟩ (by simp) rfl) 49 rfl).trans (hI.1 4 (by decide) (hd ⟨4, .data⟩ (by simp) rfl))
              have b50 : a.tmps[50]?.getD undef = .int .i64 (p : Int) := (hB.val 5 (hd ⟨5, .data⟩ (by simp) rfl) 50 rfl).trans (hI.1 5 (by decide) (hd ⟨5, .data⟩ (by simp) rfl))
              have hx : Below (w4).heap.size (w4) w6 := hI.ext (hB.wait 6 13 hL (by kernel_rfl))
              exact stepI_run (v := .pointer (some ⟨g, p, none⟩)) rfl (by simp [execOp, go_sem, Act.eval, b49, b50, hp2, addr_lit0]) (hI.step 6 (by decide) rfl)
            · intro L vs a w6 hB hL hd hI
              have b51 : a.tmps[51]?.getD undef = .pointer (some ⟨g, p, none⟩) := (hB.val 6 (hd ⟨6, .data⟩ (by simp) rfl) 51 rfl).trans (hI.1 6 (by decide) (hd ⟨6, .data⟩ (by simp) rfl))
              have hx : Below (w4).heap.size (w4) w6 := hI.ext (hB.wait 7 13 hL (by kernel_rfl))
              have qc := HC.out w6 hx
              exact stepI_run (v := .int .i64 y) rfl (by simp [execOp, go_sem, Act.eval, b51, qc]) (hI.step 7 (by decide) rfl)
            · intro L vs a w6 hB hL hd hI
              have b3 : a.tmps[3]?.getD undef = .pointer (some ⟨w.heap.size + 1, 0, none⟩) := hB.at 3 (by kernel_rfl)
              have hx : Below (w4).heap.size (w4) w6 := hI.ext (hB.wait 8 13 hL (by kernel_rfl))
              exact stepI_run (v := .pointer (some ⟨w.heap.size + 1, 2, none⟩)) rfl (by simp [execOp, go_sem, Act.eval, b3]) (hI.step 8 (by decide) rfl)
            · intro L vs a w6 hB hL hd hI
              have b53 : a.tmps[53]?.getD undef = .pointer (some ⟨w.heap.size + 1, 2, none⟩) := (hB.val 8 (hd ⟨8, .data⟩ (by simp) rfl) 53 rfl).trans (hI.1 8 (by decide) (hd ⟨8, .data⟩ (by simp) rfl))
              have hx : Below (w4).heap.size (w4) w6 := hI.ext (hB.wait 9 13 hL (by kernel_rfl))
              have q2 := (HDB.out.below hx).cell 2
              exact stepI_run (v := .int .i64 C) rfl (by simp [execOp, go_sem, Act.eval, b53, q2]) (hI.step 9 (by decide) rfl)
            · intro L vs a w6 hB hL hd hI
              have b54 : a.tmps[54]?.getD undef = .int .i64 C := (hB.val 9 (hd ⟨9, .data⟩ (by simp) rfl) 54 rfl).trans (hI.1 9 (by decide) (hd ⟨9, .data⟩ (by simp) rfl))
              have hx : Below (w4).heap.size (w4) w6 := hI.ext (hB.wait 10 13 hL (by kernel_rfl))
              exact stepI_run (v := .int .i64 (max C (-20001))) rfl (by simp [go_sem, Act.eval, b54]; split <;> omega) (hI.step 10 (by decide) rfl)
            · intro L vs a w6 hB hL hd hI
              have b52 : a.tmps[52]?.getD undef = .int .i64 y := (hB.val 7 (hd ⟨7, .data⟩ (by simp) rfl) 52 rfl).trans (hI.1 7 (by decide) (hd ⟨7, .data⟩ (by simp) rfl))
              have b55 : a.tmps[55]?.getD undef = .int .i64 (max C (-20001)) := (hB.val 10 (hd ⟨10, .data⟩ (by simp) rfl) 55 rfl).trans (hI.1 10 (by decide) (hd ⟨10, .data⟩ (by simp) rfl))
              have hx : Below (w4).heap.size (w4) w6 := hI.ext (hB.wait 11 13 hL (by kernel_rfl))
              exact stepI_run (v := .int .i64 x) rfl (by simp [go_sem, Act.eval, b52, b55]; split <;> omega) (hI.step 11 (by decide) rfl)
            · intro L vs a w6 hB hL hd hI
              have b46 : a.tmps[46]?.getD undef = .slice (some ⟨g, 0, none⟩) ((m + 1) * (m + 1)) c4 := (hB.val 1 (hd ⟨1, .data⟩ (by simp) rfl) 46 rfl).trans (hI.1 1 (by decide) (hd ⟨1, .data⟩ (by simp) rfl))
              have b47 : a.tmps[47]?.getD undef = .int .i64 (p : Int) := (hB.val 2 (hd ⟨2, .data⟩ (by simp) rfl) 47 rfl).trans (hI.1 2 (by decide) (hd ⟨2, .data⟩ (by simp) rfl))
              have hx : Below (w4).heap.size (w4) w6 := hI.ext (hB.wait 12 13 hL (by kernel_rfl))
              exact stepI_run (v := .pointer (some ⟨g, p, none⟩)) rfl (by simp [execOp, go_sem, Act.eval, b46, b47, hp2, addr_lit0]) (hI.step 12 (by decide) rfl)
            · intro L vs a w6 hB hL hd hI
              have b57 : a.tmps[57]?.getD undef = .pointer (some ⟨g, p, none⟩) := (hB.val 12 (hd ⟨12, .data⟩ (by simp) rfl) 57 rfl).trans (hI.1 12 (by decide) (hd ⟨12, .data⟩ (by simp) rfl))
              have b56 : a.tmps[56]?.getD undef = .int .i64 x := (hB.val 11 (hd ⟨11, .data⟩ (by simp) rfl) 56 rfl).trans (hI.1 11 (by decide) (hd ⟨11, .data⟩ (by simp) rfl))
              have hx : Below (w4).heap.size (w4) w6 := hI.ext hL
              have f1 := (HO4.out.keep hx).frozenAt p
              have q1 := HC.out w6 hx
              exact stepI_skip (w' := w6.setCell (⟨g, p, none⟩) (.int .i64 x)) rfl (by simp [execOp, go_sem, Act.eval, b57, b56, f1, q1]) (hI.put hL)
          · intro L vs w7 hall hI
            obtain ⟨w6, HEXT, hw7⟩ := hI.fin (hall 13 (by decide))
            subst hw7
            clear hI hall
            simp only [putAll, Act.put, List.setIfInBounds_toArray, List.set_cons_zero, List.set_cons_succ, Nat.zero_add, Nat.reduceAdd]
            have HO5 := Lib.hid (show Own (w6.setCell ⟨g, p, none⟩ (.int .i64 x)) _ _ _ (addL (m + 1) b i j C) from by rw [HAL.out]; exact own_put (HO4.out.keep HEXT.out) p x)
            have HNB5 := Lib.hid ((HNB.out.below HEXT.out).other (c := g) (i := p) (u := .int .i64 x) HGN.out.symm)
            have HY5 := Lib.hid ((HY4.out.below HEXT.out).other (c := g) (i := p) (u := .int .i64 x) (by omega))
            have HB5 := Lib.hid ((HB4.out.trans (HEXT.out.mono HB4.out.size)).setCell (p := ⟨g, p, none⟩) (by have := HS2.out; show w.heap.size ≤ g; omega) (.int .i64 x))
            have HS2b := Lib.hid (show w.heap.size ≤ w3.heap.size from HS2.out)
            clear HEXT HO4 HNB HDB HY4 HB4 hp2 HC x0 x1 d0 d1 d2 hpj hrm
            generalize w6.setCell ⟨g, p, none⟩ (.int .i64 x) = w7 at *
            obtain ⟨x0, x1⟩ := HNB5.out.k2
            obtain ⟨y0, y1⟩ := HY5.out.k2
            obtain ⟨f0, f1⟩ := HY5.out.f2
            go_wp2_with fail
            refine bodyPost_ret (v := .tuple #[.agg #[.int .i64 (m : Int), .slice (some ⟨g, 0, none⟩) ((m + 1) * (m + 1)) c4], .int .i64 0]) (bx_ret2 ((HY5.out.set 0 _).set 1 _) Try.results16 _ rfl Try.underlying24 rfl (by kernel_rfl)) rfl ?_
            have hgy : (Value.slice (some ⟨g, 0, none⟩) ((m + 1) * (m + 1)) c4).ownBlock ≠ some (w.heap.size + 2) := by
              intro e
              have e2 : g = w.heap.size + 2 := by simpa [Value.ownBlock] using e
              omega
            exact zp_fin HR.out (by omega) HB5.out HS2b.out HO5.out hgy
set_option maxRecDepth 20000 in
set_option maxHeartbeats 1000000 in
theorem rimplies_any (N X Y C : Int) (v : Value) (b : List Int) (w : World) (h : Sl iv w v b) (hl : b.length ≤ 9223372036854775807) :
    Calls Try.prog 24 #[.agg #[.int .i64 N, v], .agg #[.int .i64 X, .int .i64 Y, .int .i64 C]] w (Tells w (.bool (impR N b X Y C))) := by
  obtain ⟨A, c, rfl⟩ := h.shape
  have H := Lib.hid h
  clear h
  obtain ⟨R, hR⟩ : ∃ R, R = impR N b X Y C := ⟨_, rfl⟩
  rw [← hR]
  unfold impR at hR
  cases hp : zvB N b with
  | false =>
    rw [hp, Bool.false_and, Bool.false_and] at hR
    subst hR
    have Hp := Lib.hid hp
    clear hp
    go_enter Try.func24, Try.ntmps24
    go_wp2_with fail
    refine (rvalid_any N _ b _ (H.out.below (al2 w _ _)) hl).mono ?_; rintro e w1 ⟨rfl, hb⟩; rw [Hp.out]
    obtain ⟨-, -, HB⟩ := two_boxes rfl rfl hb
    clear hb
    go_wp2_with fail
    go_ret
    exact Tells.of HB.out
  | true =>
    obtain ⟨m, rfl, hm, -, hz⟩ := zv_nat hp
    rw [hp, Bool.true_and] at hR
    have Hp := Lib.hid hp
    have HZ := Lib.hid hz
    clear hp hz
    cases hx : knB (m : Int) X with
    | false =>
      rw [hx, Bool.false_and, Bool.false_and] at hR
      subst hR
      have Hx := Lib.hid hx
      clear hx
      go_enter Try.func24, Try.ntmps24
      go_wp2_with fail
      refine (rvalid_any m _ b _ (H.out.below (al2 w _ _)) hl).mono ?_; rintro e w1 ⟨rfl, hb⟩; rw [Hp.out]
      obtain ⟨HX, HD, HB⟩ := two_boxes rfl rfl hb
      obtain ⟨x0, x1⟩ := HX.out.k2
      obtain ⟨d0, d1, d2⟩ := HD.out.k3
      clear hb
      go_wp2_with fail
      refine (rknown_any m X _ _).mono ?_; rintro e w2 ⟨rfl, hb⟩; rw [Hx.out]
      have HB2 := Lib.hid (HB.out.trans (hb.mono HB.out.size))
      clear hb x0 x1 d0 d1 d2
      go_wp2_with fail
      go_ret
      exact Tells.of HB2.out
    | true =>
      cases hy : knB (m : Int) Y with
      | false =>
        rw [hx, hy, Bool.and_false, Bool.false_and] at hR
        subst hR
        have Hx := Lib.hid hx
        have Hy := Lib.hid hy
        clear hx hy
        go_enter Try.func24, Try.ntmps24
        go_wp2_with fail
        refine (rvalid_any m _ b _ (H.out.below (al2 w _ _)) hl).mono ?_; rintro e w1 ⟨rfl, hb⟩; rw [Hp.out]
        obtain ⟨HX, HD, HB⟩ := two_boxes rfl rfl hb
        obtain ⟨x0, x1⟩ := HX.out.k2
        obtain ⟨d0, d1, d2⟩ := HD.out.k3
        clear hb
        go_wp2_with fail
        refine (rknown_any m X _ _).mono ?_; rintro e w2 ⟨rfl, hb⟩; rw [Hx.out]
        have HB2 := Lib.hid (HB.out.trans (hb.mono HB.out.size))
        have HX2 := Lib.hid (HX.out.below hb)
        have HD2 := Lib.hid (HD.out.below hb)
        clear hb x0 x1 d0 d1 d2 HX HD HB
        obtain ⟨x0, x1⟩ := HX2.out.k2
        obtain ⟨d0, d1, d2⟩ := HD2.out.k3
        go_wp2_with fail
        refine (rknown_any m Y _ _).mono ?_; rintro e w3 ⟨rfl, hb⟩; rw [Hy.out]
        have HB3 := Lib.hid (HB2.out.trans (hb.mono HB2.out.size))
        clear hb x0 x1 d0 d1 d2
        go_wp2_with fail
        go_ret
        exact Tells.of HB3.out
      | true =>
        have hk2 := hx
        have hk3 := hy
        unfold knB at hk2 hk3
        rw [decide_eq_true_iff] at hk2 hk3
        obtain ⟨i, rfl⟩ : ∃ i : Nat, X = (i : Int) - 1 := ⟨(X + 1).toNat, by omega⟩
        obtain ⟨j, rfl⟩ : ∃ j : Nat, Y = (j : Int) - 1 := ⟨(Y + 1).toNat, by omega⟩
        have hi : i ≤ m := by omega
        have hj : j ≤ m := by omega
        rw [hx, hy, Bool.true_and, Bool.true_and, show ((m : Int) + 1).toNat = m + 1 by omega, show ((i : Int) - 1 + 1).toNat = i by omega, show ((j : Int) - 1 + 1).toNat = j by omega] at hR
        have Hx := Lib.hid hx
        have Hy := Lib.hid hy
        have HR := Lib.hid hR
        have hi1 : (i : Int) - 1 + 1 = i := by omega
        clear hx hy hk2 hk3 hR
        go_enter Try.func24, Try.ntmps24
        go_wp2_with fail
        refine (rvalid_any m _ b _ (H.out.below (al2 w _ _)) hl).mono ?_; rintro e w1 ⟨rfl, hb⟩; rw [Hp.out]
        obtain ⟨HX, HD, HB⟩ := two_boxes rfl rfl hb
        obtain ⟨x0, x1⟩ := HX.out.k2
        obtain ⟨d0, d1, d2⟩ := HD.out.k3
        clear hb
        go_wp2_with fail
        refine (rknown_any m _ _ _).mono ?_; rintro e w2 ⟨rfl, hb⟩; rw [Hx.out]
        have HB2 := Lib.hid (HB.out.trans (hb.mono HB.out.size))
        have HX2 := Lib.hid (HX.out.below hb)
        have HD2 := Lib.hid (HD.out.below hb)
        clear hb x0 x1 d0 d1 d2 HX HD HB
        obtain ⟨x0, x1⟩ := HX2.out.k2
        obtain ⟨d0, d1, d2⟩ := HD2.out.k3
        go_wp2_with fail
        refine (rknown_any m _ _ _).mono ?_; rintro e w3 ⟨rfl, hb⟩; rw [Hy.out]
        have HB3 := Lib.hid (HB2.out.trans (hb.mono HB2.out.size))
        have HX3 := Lib.hid (HX2.out.below hb)
        have HD3 := Lib.hid (HD2.out.below hb)
        clear hb x0 x1 d0 d1 d2 HX2 HD2 HB2
        obtain ⟨x0, x1⟩ := HX3.out.k2
        go_wp2_with fail
        refine (rclose_any m _ b _ (H.out.below HB3.out) hl).mono ?_; rintro e w4 ⟨v, rfl, ho, hb⟩
        obtain ⟨A3, c3, rfl⟩ := own_shapeG ho
        have HB4 := Lib.hid (HB3.out.trans (hb.mono HB3.out.size))
        have HX4 := Lib.hid (HX3.out.below hb)
        have HD4 := Lib.hid (HD3.out.below hb)
        clear hb x0 x1 HX3 HD3 HB3
        cases hc : closeR (m : Int) b with
        | none =>
          rw [closeZ_none hc] at ho ⊢
          rw [hc] at HR
          have hr := HR.out
          dsimp only at hr
          subst hr
          have HB5 := Lib.hid (HB4.out.alloc HB4.out.size (.cells #[.int .i64 0, .slice A3 0 c3] 24))
          clear ho hc HD4 HR HX4
          simp only [List.length_nil]
          go_wp2_with fail
          go_quiet (fail)
          have HB6 := Lib.hid (HB5.out.trans ((below_drewN _ nq).mono HB5.out.size))
          go_wp2_with fail
          go_ret
          exact Tells.of HB6.out
        | some cl =>
          rw [closeZ_some hc] at ho ⊢
          rw [hc] at HR
          have hr := HR.out
          dsimp only at hr
          have HCL := cls_len HZ.out ((closeR_nat HZ.out).symm.trans hc)
          dsimp only at ho
          obtain ⟨g, cap, hg, hg1, hg2, -⟩ := own_shape ho (by rw [HCL]; exact Nat.mul_pos (by omega) (by omega))
          simp only [Value.slice.injEq] at hg
          obtain ⟨rfl, -, rfl⟩ := hg
          rw [HCL] at ho
          have hc4 := own_gt (show Own w4 _ _ _ cl from ho) HCL (show i < m + 1 by omega) (show j < m + 1 by omega) _ (al1 w4 (.cells #[.int .i64 (m : Int), .slice (some ⟨g, 0, none⟩) cl.length c3] 24))
          have hsq := sq_lt (n := m + 1) (i := i) (j := j) (by omega) (by omega)
          have hmf := mul_few hm hi
          have hp1 : ((i * (m + 1) + j : Nat) : Int) < (cl.length : Int) := by rw [HCL]; omega
          have HB5 := Lib.hid (HB4.out.alloc HB4.out.size (.cells #[.int .i64 (m : Int), .slice (some ⟨g, 0, none⟩) cl.length c3] 24))
          obtain ⟨x0, x1⟩ := (HX4.out.alloc (.cells #[.int .i64 (m : Int), .slice (some ⟨g, 0, none⟩) cl.length c3] 24)).k2
          obtain ⟨d0, d1, d2⟩ := (HD4.out.alloc (.cells #[.int .i64 (m : Int), .slice (some ⟨g, 0, none⟩) cl.length c3] 24)).k3
          generalize gt (m + 1) cl i j = y at *
          have hrm : (i : Int) * ((m : Int) + 1) = ((i * (m + 1) : Nat) : Int) := by push_cast; rfl
          generalize hrr : i * (m + 1) = r at *
          obtain ⟨p, hpp⟩ : ∃ p, r + j = p := ⟨_, rfl⟩
          rw [hpp] at hc4 hp1
          have hpj : (r : Int) + ((j : Int) - 1) + 1 = (p : Int) := by omega
          have hpl := addr_lit0 g p
          have hcll : cl.length ≤ 1000 := by rw [HCL]; exact Nat.le_trans (Nat.mul_le_mul (by omega : m + 1 ≤ 25) (by omega : m + 1 ≤ 25)) (by decide)
          generalize cl.length = q at *
          clear hsq ho hc HR HCL
          go_wp2_with fail
          go_quiet (fail)
          have HB6 := Lib.hid (HB5.out.trans ((below_drewN _ nq).mono HB5.out.size))
          go_wp2_with fail
          go_ret
          rw [hr]
          exact Tells.of HB6.out
end Go.Proofs.Yteoddcamicmapaa
