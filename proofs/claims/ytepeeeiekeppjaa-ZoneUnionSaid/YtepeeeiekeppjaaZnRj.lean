/- Layer 13: the reference's Join (tools/gen_zw2.py). -/
import Derived.Test.YtepeeeiekeppjaaZnRu
namespace Go.Proofs.Ytepeeeiekeppjaa
open Go.RowKit

set_option maxRecDepth 20000 in
set_option maxHeartbeats 1000000 in
theorem rjoin_any (N M : Int) (v u : Value) (a b : List Int) (w : World) (h : Sl iv w v a) (hl : a.length ≤ 9223372036854775807) (h2 : Sl iv w u b) (hl2 : b.length ≤ 9223372036854775807) :
    Calls Try.prog 32 #[.agg #[.int .i64 N, v], .agg #[.int .i64 M, u]] w (ZP w (joinZ N a M b)) := by
  obtain ⟨A, c, rfl⟩ := h.shape
  obtain ⟨A2, c2, rfl⟩ := h2.shape
  have H := Lib.hid h
  have H2 := Lib.hid h2
  clear h h2
  cases hp : zvB N a with
  | false =>
    have HA := Lib.hid (show aliB N a M b = false from by unfold aliB; rw [hp]; rfl)
    have Hp := Lib.hid hp
    clear hp
    go_enter Try.func32, Try.ntmps32
    go_wp2_with fail
    refine (rvalid_any N _ a _ (H.out.below (al3 w _ _ _)) hl).mono ?_; rintro e w1 ⟨rfl, hb⟩; rw [Hp.out]
    obtain ⟨HX, HD, HY, HB⟩ := three_boxes rfl rfl rfl hb
    clear hb
    obtain ⟨y0, y1⟩ := HY.out.k2
    obtain ⟨f0, f1⟩ := HY.out.f2
    go_wp2_with fail
    refine bodyPost_ret (v := .tuple #[.agg #[.int .i64 0, .slice none 0 0], .int .i64 1]) (bx_ret2 ((HY.out.set 0 _).set 1 _) Try.results32 _ rfl Try.underlying24 rfl (by kernel_rfl)) rfl ?_
    exact zp_zero (joinZ_bad HA.out) (by omega) HB.out
  | true =>
  cases hq : zvB M b with
  | false =>
    have HA := Lib.hid (show aliB N a M b = false from by unfold aliB; rw [hp, hq]; rfl)
    have Hp := Lib.hid hp
    have Hq := Lib.hid hq
    clear hp hq
    go_enter Try.func32, Try.ntmps32
    go_wp2_with fail
    refine (rvalid_any N _ a _ (H.out.below (al3 w _ _ _)) hl).mono ?_; rintro e w1 ⟨rfl, hb⟩; rw [Hp.out]
    obtain ⟨HX, HD, HY, HB⟩ := three_boxes rfl rfl rfl hb
    clear hb
    obtain ⟨d0, d1⟩ := HD.out.k2
    go_wp2_with fail
    refine (rvalid_any M _ b _ (H2.out.below HB.out) hl2).mono ?_; rintro e w9 ⟨rfl, hb⟩; rw [Hq.out]
    have HB2 := Lib.hid (HB.out.trans (hb.mono HB.out.size))
    have HX2 := Lib.hid (HX.out.below hb)
    have HD2 := Lib.hid (HD.out.below hb)
    have HY2 := Lib.hid (HY.out.below hb)
    clear hb d0 d1 HB HX HD HY
    obtain ⟨x0, x1⟩ := HX2.out.k2
    obtain ⟨d0, d1⟩ := HD2.out.k2
    clear x0 x1 d0 d1
    have HB := HB2
    have HY := HY2
    obtain ⟨y0, y1⟩ := HY.out.k2
    obtain ⟨f0, f1⟩ := HY.out.f2
    go_wp2_with fail
    refine bodyPost_ret (v := .tuple #[.agg #[.int .i64 0, .slice none 0 0], .int .i64 1]) (bx_ret2 ((HY.out.set 0 _).set 1 _) Try.results32 _ rfl Try.underlying24 rfl (by kernel_rfl)) rfl ?_
    exact zp_zero (joinZ_bad HA.out) (by omega) HB.out
  | true =>
  by_cases hN : N = M
  rotate_left
  · have HA := Lib.hid (show aliB N a M b = false from by unfold aliB; rw [hp, hq, decide_eq_false hN]; rfl)
    have hne : (N != M) = true := by rw [bne_iff_ne]; exact hN
    have Hp := Lib.hid hp
    have Hq := Lib.hid hq
    clear hp hq hN
    go_enter Try.func32, Try.ntmps32
    go_wp2_with fail
    refine (rvalid_any N _ a _ (H.out.below (al3 w _ _ _)) hl).mono ?_; rintro e w1 ⟨rfl, hb⟩; rw [Hp.out]
    obtain ⟨HX, HD, HY, HB⟩ := three_boxes rfl rfl rfl hb
    clear hb
    obtain ⟨d0, d1⟩ := HD.out.k2
    go_wp2_with fail
    refine (rvalid_any M _ b _ (H2.out.below HB.out) hl2).mono ?_; rintro e w9 ⟨rfl, hb⟩; rw [Hq.out]
    have HB2 := Lib.hid (HB.out.trans (hb.mono HB.out.size))
    have HX2 := Lib.hid (HX.out.below hb)
    have HD2 := Lib.hid (HD.out.below hb)
    have HY2 := Lib.hid (HY.out.below hb)
    clear hb d0 d1 HB HX HD HY
    obtain ⟨x0, x1⟩ := HX2.out.k2
    obtain ⟨d0, d1⟩ := HD2.out.k2
    have HB := HB2
    have HY := HY2
    obtain ⟨y0, y1⟩ := HY.out.k2
    obtain ⟨f0, f1⟩ := HY.out.f2
    go_wp2_with fail
    refine bodyPost_ret (v := .tuple #[.agg #[.int .i64 0, .slice none 0 0], .int .i64 1]) (bx_ret2 ((HY.out.set 0 _).set 1 _) Try.results32 _ rfl Try.underlying24 rfl (by kernel_rfl)) rfl ?_
    exact zp_zero (joinZ_bad HA.out) (by omega) HB.out
  have hA : aliB N a M b = true := by unfold aliB; rw [hp, hq, decide_eq_true hN]; rfl
  obtain ⟨m, rfl, rfl, hm, hz1, hz2⟩ := aliB_nat hA
  have HA := Lib.hid hA
  have HZ1 := Lib.hid hz1
  have HZ2 := Lib.hid hz2
  have hne : ((m : Int) != (m : Int)) = false := by rw [bne_eq_false_iff_eq]
  have Hp := Lib.hid hp
  have Hq := Lib.hid hq
  clear hA hz1 hz2 hp hq hN
  go_enter Try.func32, Try.ntmps32
  go_wp2_with fail
  refine (rvalid_any (m : Int) _ a _ (H.out.below (al3 w _ _ _)) hl).mono ?_; rintro e w1 ⟨rfl, hb⟩; rw [Hp.out]
  obtain ⟨HX, HD, HY, HB⟩ := three_boxes rfl rfl rfl hb
  clear hb
  obtain ⟨d0, d1⟩ := HD.out.k2
  go_wp2_with fail
  refine (rvalid_any (m : Int) _ b _ (H2.out.below HB.out) hl2).mono ?_; rintro e w9 ⟨rfl, hb⟩; rw [Hq.out]
  have HB2 := Lib.hid (HB.out.trans (hb.mono HB.out.size))
  have HX2 := Lib.hid (HX.out.below hb)
  have HD2 := Lib.hid (HD.out.below hb)
  have HY2 := Lib.hid (HY.out.below hb)
  clear hb d0 d1 HB HX HD HY
  obtain ⟨x0, x1⟩ := HX2.out.k2
  obtain ⟨d0, d1⟩ := HD2.out.k2
  go_wp2_with fail
  clear x0 x1 d0 d1 hne
  have HB := HB2
  have HX := HX2
  have HD := HD2
  have HY := HY2
  clear HB2 HX2 HD2 HY2
  refine (rclose_any m _ a _ (H.out.below HB.out) hl).mono ?_; rintro e w2 ⟨v, rfl, ho, hb⟩
  obtain ⟨A3, c3, rfl⟩ := own_shapeG ho
  have HB2 := Lib.hid (HB.out.trans (hb.mono HB.out.size))
  have HX2 := Lib.hid (HX.out.below hb)
  have HD2 := Lib.hid (HD.out.below hb)
  have HY2 := Lib.hid (HY.out.below hb)
  have HO2 := Lib.hid ho
  have HS0 := Lib.hid HY.out.lt
  clear hb HB HX HD HY ho
  obtain ⟨r1, hr1⟩ : ∃ r1, r1 = closeZ (m : Int) a := ⟨_, rfl⟩
  rw [← hr1] at HO2 ⊢
  have HR1 := Lib.hid hr1
  clear hr1
  obtain ⟨⟨n1, l1⟩, t1⟩ := r1
  dsimp only at HO2 ⊢
  have HGA := Lib.hid (fun k (e : (Value.slice A3 l1.length c3).ownBlock = some k) => (World.ownsRow.lt HO2.out k e).2)
  obtain ⟨b1, rfl⟩ : ∃ b1, t1 = .bool b1 := by
    have h := HR1.out
    unfold closeZ at h
    split at h <;> cases h <;> exact ⟨_, rfl⟩
  have HX3 := Lib.hid (HX2.out.alloc (.cells #[.int .i64 n1, .slice A3 l1.length c3] 24))
  have HD3 := Lib.hid (HD2.out.alloc (.cells #[.int .i64 n1, .slice A3 l1.length c3] 24))
  have HY3 := Lib.hid (HY2.out.alloc (.cells #[.int .i64 n1, .slice A3 l1.length c3] 24))
  have HF3 := Lib.hid (Bx.new w2 24 #[.int .i64 n1, .slice A3 l1.length c3])
  have HO3 := Lib.hid (show Own (w2.alloc (.cells #[.int .i64 n1, .slice A3 l1.length c3] 24)) _ _ _ _ from Own.keep HO2.out (al1 w2 _))
  have HB3 := Lib.hid (HB2.out.alloc HB2.out.size (.cells #[.int .i64 n1, .slice A3 l1.length c3] 24))
  clear HX2 HD2 HY2 HO2 HB2
  obtain ⟨d0, d1⟩ := HD3.out.k2
  go_wp2_with fail
  refine (rclose_any m _ b _ (H2.out.below HB3.out) hl2).mono ?_; rintro e w4 ⟨v, rfl, ho, hb⟩
  obtain ⟨A5, c5, rfl⟩ := own_shapeG ho
  have HB4 := Lib.hid (HB3.out.trans (hb.mono HB3.out.size))
  have HX4 := Lib.hid (HX3.out.below hb)
  have HY4 := Lib.hid (HY3.out.below hb)
  have HF4 := Lib.hid (HF3.out.below hb)
  have HO4 := Lib.hid (show Own w4 _ _ _ _ from Own.keep HO3.out hb)
  have HQ4 := Lib.hid ho
  have HS4 := Lib.hid HY3.out.lt
  clear hb d0 d1 HB3 HX3 HY3 HD3 HF3 HO3 ho
  obtain ⟨r2, hr2⟩ : ∃ r2, r2 = closeZ (m : Int) b := ⟨_, rfl⟩
  rw [← hr2] at HQ4 ⊢
  have HR2 := Lib.hid hr2
  clear hr2
  obtain ⟨⟨n2, l2⟩, t2⟩ := r2
  dsimp only at HQ4 ⊢
  obtain ⟨b2, rfl⟩ : ∃ b2, t2 = .bool b2 := by
    have h := HR2.out
    unfold closeZ at h
    split at h <;> cases h <;> exact ⟨_, rfl⟩
  have HX5 := Lib.hid (HX4.out.alloc (.cells #[.int .i64 n2, .slice A5 l2.length c5] 24))
  have HY5 := Lib.hid (HY4.out.alloc (.cells #[.int .i64 n2, .slice A5 l2.length c5] 24))
  have HF5 := Lib.hid (HF4.out.alloc (.cells #[.int .i64 n2, .slice A5 l2.length c5] 24))
  have HG5 := Lib.hid (Bx.new w4 24 #[.int .i64 n2, .slice A5 l2.length c5])
  have HO5 := Lib.hid (show Own (w4.alloc (.cells #[.int .i64 n2, .slice A5 l2.length c5] 24)) _ _ _ _ from Own.keep HO4.out (al1 w4 _))
  have HQ5 := Lib.hid (show Own (w4.alloc (.cells #[.int .i64 n2, .slice A5 l2.length c5] 24)) _ _ _ _ from Own.keep HQ4.out (al1 w4 _))
  have HB5 := Lib.hid (HB4.out.alloc HB4.out.size (.cells #[.int .i64 n2, .slice A5 l2.length c5] 24))
  have HS5 := Lib.hid (show w.heap.size + 2 < (w4.alloc (.cells #[.int .i64 n2, .slice A5 l2.length c5] 24)).heap.size from HY5.out.lt)
  clear HX4 HY4 HF4 HO4 HQ4 HB4
  cases hca : closeR (m : Int) a with
  | none =>
    have h1 := HR1.out
    rw [closeZ_none hca] at h1
    simp only [Prod.mk.injEq, Value.bool.injEq] at h1
    obtain ⟨⟨rfl, rfl⟩, rfl⟩ := h1
    cases hcb : closeR (m : Int) b with
    | none =>
      have h2 := HR2.out
      rw [closeZ_none hcb] at h2
      simp only [Prod.mk.injEq, Value.bool.injEq] at h2
      obtain ⟨⟨rfl, rfl⟩, rfl⟩ := h2
      have HR := Lib.hid (joinZ_0 HA.out hca hcb)
      clear hca hcb HR1 HR2
      simp only [List.length_nil] at HX5 HY5 HF5 HG5 HO5 HQ5 HB5 HS5
      generalize hw5 : w4.alloc (.cells #[.int .i64 0, .slice A5 0 c5] 24) = w5 at *
      obtain ⟨x0, x1⟩ := HX5.out.k2
      go_wp2_with (rw [hw5])
      refine (rempty_any m hm _).mono ?_; rintro e w6 ⟨v, rfl, ho, hb⟩
      obtain ⟨A6, c6, rfl⟩ := own_shapeG ho
      have HO6 := Lib.hid ho
      have HY6 := Lib.hid (HY5.out.below hb)
      have HB6 := Lib.hid (HB5.out.trans (hb.mono HB5.out.size))
      obtain ⟨y0, y1⟩ := HY6.out.k2
      obtain ⟨f0, f1⟩ := HY6.out.f2
      clear ho hb x0 x1
      go_wp2_with fail
      refine bodyPost_ret (v := .tuple #[.agg #[.int .i64 (m : Int), .slice A6 ((m + 1) * (m + 1)) c6], .int .i64 0]) (bx_ret2 ((HY6.out.set 0 _).set 1 _) Try.results32 _ rfl Try.underlying24 rfl (by kernel_rfl)) rfl ?_
      exact zp_fin HR.out (by omega) HB6.out HB5.out.size HO6.out (HO6.out.lt (.inl HS5.out))
    | some d =>
      have h2 := HR2.out
      rw [closeZ_some hcb] at h2
      simp only [Prod.mk.injEq, Value.bool.injEq] at h2
      obtain ⟨⟨rfl, rfl⟩, rfl⟩ := h2
      have HR := Lib.hid (joinZ_2 HA.out hca hcb)
      clear hca hcb HR1 HR2
      generalize hw5 : w4.alloc (.cells #[.int .i64 (m : Int), .slice A5 l2.length c5] 24) = w5 at *
      obtain ⟨x0, x1⟩ := HG5.out.k2
      obtain ⟨y0, y1⟩ := HY5.out.k2
      obtain ⟨f0, f1⟩ := HY5.out.f2
      go_wp2_with (rw [hw5])
      refine bodyPost_ret (v := .tuple #[.agg #[.int .i64 (m : Int), .slice A5 l2.length c5], .int .i64 0]) (bx_ret2 ((HY5.out.set 0 _).set 1 _) Try.results32 _ rfl Try.underlying24 rfl (by kernel_rfl)) rfl ?_
      exact zp_fin HR.out (by omega) HB5.out (by have := HS4.out; omega) HQ5.out (HQ5.out.lt (.inl HS4.out))
  | some cl =>
    have h1 := HR1.out
    rw [closeZ_some hca] at h1
    simp only [Prod.mk.injEq, Value.bool.injEq] at h1
    obtain ⟨⟨rfl, rfl⟩, rfl⟩ := h1
    cases hcb : closeR (m : Int) b with
    | none =>
      have h2 := HR2.out
      rw [closeZ_none hcb] at h2
      simp only [Prod.mk.injEq, Value.bool.injEq] at h2
      obtain ⟨⟨rfl, rfl⟩, rfl⟩ := h2
      have HR := Lib.hid (joinZ_1 HA.out hca hcb)
      clear hca hcb HR1 HR2
      simp only [List.length_nil] at HX5 HY5 HF5 HG5 HO5 HQ5 HB5 HS5
      generalize hw5 : w4.alloc (.cells #[.int .i64 0, .slice A5 0 c5] 24) = w5 at *
      obtain ⟨x0, x1⟩ := HF5.out.k2
      obtain ⟨y0, y1⟩ := HY5.out.k2
      obtain ⟨f0, f1⟩ := HY5.out.f2
      go_wp2_with (rw [hw5])
      refine bodyPost_ret (v := .tuple #[.agg #[.int .i64 (m : Int), .slice A3 l1.length c3], .int .i64 0]) (bx_ret2 ((HY5.out.set 0 _).set 1 _) Try.results32 _ rfl Try.underlying24 rfl (by kernel_rfl)) rfl ?_
      exact zp_fin HR.out (by omega) HB5.out (by have := HS0.out; omega) HO5.out (HO5.out.lt (.inl HS0.out))
    | some d =>
      have h2 := HR2.out
      rw [closeZ_some hcb] at h2
      simp only [Prod.mk.injEq, Value.bool.injEq] at h2
      obtain ⟨⟨rfl, rfl⟩, rfl⟩ := h2
      have HR := Lib.hid (joinZ_3 HA.out hca hcb)
      have hcl := cls_len HZ1.out ((closeR_nat HZ1.out).symm.trans hca)
      have hdl := cls_len HZ2.out ((closeR_nat HZ2.out).symm.trans hcb)
      have hs24 : w2.heap.size ≤ w4.heap.size := by have := HF5.out.lt; simp at this; omega
      clear hca hcb HR1 HR2
      generalize hw5 : w4.alloc (.cells #[.int .i64 (m : Int), .slice A5 l2.length c5] 24) = w5 at *
      have hsz := HY5.out.lt
      obtain ⟨g, cap1, hg, hga, hgb, -⟩ := own_shape HO5.out (by rw [hcl]; exact Nat.mul_pos (by omega) (by omega))
      simp only [Value.slice.injEq] at hg
      obtain ⟨rfl, -, rfl⟩ := hg
      obtain ⟨g2, cap2, hg, hg2a, hg2b, -⟩ := own_shape HQ5.out (by rw [hdl]; exact Nat.mul_pos (by omega) (by omega))
      simp only [Value.slice.injEq] at hg
      obtain ⟨rfl, -, rfl⟩ := hg
      have hgl : g < w2.heap.size := HGA.out g rfl
      have hg12 : g2 ≠ g := by simp at hg2a; omega
      have hgy : w.heap.size + 2 < g := by have := HS0.out; omega
      have hs9 := HS0.out
      have HCL := Lib.hid hcl
      have HDL := Lib.hid hdl
      rw [hcl] at HF5 HO5 ⊢
      rw [hdl] at HG5 HQ5 hw5 ⊢
      have HOL := Lib.hid (show Own w5 w9.heap.size (.slice (some ⟨g, 0, none⟩) ((m + 1) * (m + 1)) c3) ((m + 1) * (m + 1)) (mixL (m + 1) (jnB (m + 1) l1 l2) (gt (m + 1) l1) 0) from by rw [mix_zero, flat_gt hcl]; exact HO5.out)
      clear HO5 HX5 hcl hdl
      obtain ⟨x0, x1⟩ := HF5.out.k2
      go_wp2_with (rw [hw5])
      clear x0 x1 hw5
      go_loopw [10] (fun zz wr => ∃ p : Nat, p ≤ ((m + 1) * (m + 1)) ∧ zz = .int .i64 (p : Int) ∧ Hid (Own wr w9.heap.size (.slice (some ⟨g, 0, none⟩) ((m + 1) * (m + 1)) c3) ((m + 1) * (m + 1)) (mixL (m + 1) (jnB (m + 1) l1 l2) (gt (m + 1) l1) p)) ∧ Hid (Own wr (w2.heap.size + 1) (.slice (some ⟨g2, 0, none⟩) ((m + 1) * (m + 1)) c5) ((m + 1) * (m + 1)) l2) ∧ Hid (Below w.heap.size w wr) ∧ Hid (Bx wr (w.heap.size + 2) 24 #[.int .i64 0, .slice none 0 0]) ∧ Hid (Bx wr w2.heap.size 24 #[.int .i64 (m : Int), .slice (some ⟨g, 0, none⟩) ((m + 1) * (m + 1)) c3]) ∧ Bx wr w4.heap.size 24 #[.int .i64 (m : Int), .slice (some ⟨g2, 0, none⟩) ((m + 1) * (m + 1)) c5]) (fun i _ => ((m + 1) * (m + 1)) - (intOf i).toNat)
      case atStart => exact ⟨0, Nat.zero_le _, rfl, HOL, Lib.hid (by have h9 := HQ5.out; simpa using h9), HB5, HY5, HF5, HG5.out⟩
      case round =>
        clear HOL HQ5 HB5 HY5 HF5 HG5
        obtain ⟨p, hp, rfl, HO, HQ, HBE, HRB, HF, hg8⟩ := hrel
        have HG := Lib.hid hg8
        obtain ⟨x0, x1⟩ := HF.out.k2
        by_cases hpl : p < ((m + 1) * (m + 1))
        · obtain ⟨i, j, hi, hj, hij⟩ : ∃ i j, i < m + 1 ∧ j < m + 1 ∧ i * (m + 1) + j = p := ⟨p / (m + 1), p % (m + 1), sq_row hpl, sq_col hpl, by rw [Nat.mul_comm]; exact Nat.div_add_mod p (m + 1)⟩
          have hpi : ((p : Nat) : Int) < ((((m + 1) * (m + 1)) : Nat) : Int) := by omega
          push_cast at hpi
          have hpb : p < 625 := Nat.lt_of_lt_of_le hpl (Nat.mul_le_mul (by omega : m + 1 ≤ 25) (by omega : m + 1 ≤ 25))
          have dj : decide ((p : Int) < ((m : Int) + 1) * ((m : Int) + 1)) = true := decide_eq_true hpi
          have hset := mix_set (jnB (m + 1) l1 l2) (gt (m + 1) l1) hi hj
          have hc1 := own_gt (i := i) (j := j) (show Own wr _ (.slice (some ⟨g, 0, none⟩) ((m + 1) * (m + 1)) c3) ((m + 1) * (m + 1)) (mixL (m + 1) (jnB (m + 1) l1 l2) (gt (m + 1) l1) (i * (m + 1) + j)) from by rw [hij]; exact HO.out) (mix_len _ _ _ _) hi hj
          rw [mix_new _ _ hi hj] at hc1
          have hc2 := own_gt HQ.out HDL.out hi hj
          have hxx : jnB (m + 1) l1 l2 i j = max (gt (m + 1) l1 i j) (gt (m + 1) l2 i j) := rfl
          rw [hij] at hset hc1 hc2
          generalize gt (m + 1) l1 i j = y1 at *
          generalize gt (m + 1) l2 i j = y2 at *
          generalize jnB (m + 1) l1 l2 i j = x at *
          have hp2 : ¬ (((m : Int) + 1) * ((m : Int) + 1) ≤ (p : Int)) := by omega
          have HSET := Lib.hid hset
          have HC1 := Lib.hid hc1
          have HC2 := Lib.hid hc2
          clear hset hc1 hc2 hij hg8
          go_wp2_with fail
          clear x0 x1
          refine region_inv (n := 78) (RdG (fun zz => match zz with | 0 => .pointer (some ⟨w2.heap.size, 1, none⟩) | 1 => .slice (some ⟨g, 0, none⟩) ((m + 1) * (m + 1)) c3 | 2 => .int .i64 (p : Int) | 3 => .pointer (some ⟨w2.heap.size, 1, none⟩) | 4 => .slice (some ⟨g, 0, none⟩) ((m + 1) * (m + 1)) c3 | 5 => .int .i64 (p : Int) | 6 => .pointer (some ⟨g, p, none⟩) | 7 => .int .i64 y1 | 8 => .pointer (some ⟨w4.heap.size, 1, none⟩) | 9 => .slice (some ⟨g2, 0, none⟩) ((m + 1) * (m + 1)) c5 | 10 => .int .i64 (p : Int) | 11 => .pointer (some ⟨g2, p, none⟩) | 12 => .int .i64 y2 | 13 => .int .i64 x | 14 => .pointer (some ⟨g, p, none⟩) | _ => undef) 15 (wr) (⟨g, p, none⟩) (.int .i64 x)) (by kernel_rfl) (by kernel_rfl) rfl ?_ (allOps_spec ?_) ?_
          · intro vs
            exact RdG.start
          · refine ⟨?_, ?_, ?_, ?_, ?_, ?_, ?_, ?_, ?_, ?_, ?_, ?_, ?_, ?_, ?_, ?_, trivial⟩
            · intro L vs a w6 hB hL hd hI
              have b6 : a.tmps[6]?.getD undef = .pointer (some ⟨w2.heap.size, 0, none⟩) := hB.at 6 (by kernel_rfl)
              have hx : Below (wr).heap.size (wr) w6 := hI.ext (hB.wait 0 15 hL (by kernel_rfl))
              exact stepI_run (v := .pointer (some ⟨w2.heap.size, 1, none⟩)) rfl (by simp [execOp, go_sem, Act.eval, b6]) (hI.step 0 (by decide) rfl)
            · intro L vs a w6 hB hL hd hI
              have b62 : a.tmps[62]?.getD undef = .pointer (some ⟨w2.heap.size, 1, none⟩) := (hB.val 0 (hd ⟨0, .data⟩ (by simp) rfl) 62 rfl).trans (hI.1 0 (by decide) (hd ⟨0, .data⟩ (by simp) rfl))
              have hx : Below (wr).heap.size (wr) w6 := hI.ext (hB.wait 1 15 hL (by kernel_rfl))
              have q1 := (HF.out.below hx).cell 1
              exact stepI_run (v := .slice (some ⟨g, 0, none⟩) ((m + 1) * (m + 1)) c3) rfl (by simp [execOp, go_sem, Act.eval, b62, q1]) (hI.step 1 (by decide) rfl)
            · intro L vs a w6 hB hL hd hI
              have b10 : a.tmps[10]?.getD undef = .int .i64 (p : Int) := hB.at 10 (by kernel_rfl)
              have hx : Below (wr).heap.size (wr) w6 := hI.ext (hB.wait 2 15 hL (by kernel_rfl))
              exact stepI_run (v := .int .i64 (p : Int)) rfl (by simp [execOp, go_sem, Act.eval, b10]) (hI.step 2 (by decide) rfl)
            · intro L vs a w6 hB hL hd hI
              have b6 : a.tmps[6]?.getD undef = .pointer (some ⟨w2.heap.size, 0, none⟩) := hB.at 6 (by kernel_rfl)
              have hx : Below (wr).heap.size (wr) w6 := hI.ext (hB.wait 3 15 hL (by kernel_rfl))
              exact stepI_run (v := .pointer (some ⟨w2.heap.size, 1, none⟩)) rfl (by simp [execOp, go_sem, Act.eval, b6]) (hI.step 3 (by decide) rfl)
            · intro L vs a w6 hB hL hd hI
              have b65 : a.tmps[65]?.getD undef = .pointer (some ⟨w2.heap.size, 1, none⟩) := (hB.val 3 (hd ⟨3, .data⟩ (by simp) rfl) 65 rfl).trans (hI.1 3 (by decide) (hd ⟨3, .data⟩ (by simp) rfl))
              have hx : Below (wr).heap.size (wr) w6 := hI.ext (hB.wait 4 15 hL (by kernel_rfl))
              have q1 := (HF.out.below hx).cell 1
              exact stepI_run (v := .slice (some ⟨g, 0, none⟩) ((m + 1) * (m + 1)) c3) rfl (by simp [execOp, go_sem, Act.eval, b65, q1]) (hI.step 4 (by decide) rfl)
            · intro L vs a w6 hB hL hd hI
              have b10 : a.tmps[10]?.getD undef = .int .i64 (p : Int) := hB.at 10 (by kernel_rfl)
              have hx : Below (wr).heap.size (wr) w6 := hI.ext (hB.wait 5 15 hL (by kernel_rfl))
              exact stepI_run (v := .int .i64 (p : Int)) rfl (by simp [execOp, go_sem, Act.eval, b10]) (hI.step 5 (by decide) rfl)
            · intro L vs a w6 hB hL hd hI
              have b66 : a.tmps[66]?.getD undef = .slice (some ⟨g, 0, none⟩) ((m + 1) * (m + 1)) c3 := (hB.val 4 (hd ⟨4, .data⟩ (by simp) rfl) 66 rfl).trans (hI.1 4 (by decide) (hd ⟨4, .data⟩ (by simp) rfl))
              have b67 : a.tmps[67]?.getD undef = .int .i64 (p : Int) := (hB.val 5 (hd ⟨5, .data⟩ (by simp) rfl) 67 rfl).trans (hI.1 5 (by decide) (hd ⟨5, .data⟩ (by simp) rfl))
              have hx : Below (wr).heap.size (wr) w6 := hI.ext (hB.wait 6 15 hL (by kernel_rfl))
              exact stepI_run (v := .pointer (some ⟨g, p, none⟩)) rfl (by simp [execOp, go_sem, Act.eval, b66, b67, hp2, addr_lit0]) (hI.step 6 (by decide) rfl)
            · intro L vs a w6 hB hL hd hI
              have b68 : a.tmps[68]?.getD undef = .pointer (some ⟨g, p, none⟩) := (hB.val 6 (hd ⟨6, .data⟩ (by simp) rfl) 68 rfl).trans (hI.1 6 (by decide) (hd ⟨6, .data⟩ (by simp) rfl))
              have hx : Below (wr).heap.size (wr) w6 := hI.ext (hB.wait 7 15 hL (by kernel_rfl))
              have qc := HC1.out w6 hx
              exact stepI_run (v := .int .i64 y1) rfl (by simp [execOp, go_sem, Act.eval, b68, qc]) (hI.step 7 (by decide) rfl)
            · intro L vs a w6 hB hL hd hI
              have b8 : a.tmps[8]?.getD undef = .pointer (some ⟨w4.heap.size, 0, none⟩) := hB.at 8 (by kernel_rfl)
              have hx : Below (wr).heap.size (wr) w6 := hI.ext (hB.wait 8 15 hL (by kernel_rfl))
              exact stepI_run (v := .pointer (some ⟨w4.heap.size, 1, none⟩)) rfl (by simp [execOp, go_sem, Act.eval, b8]) (hI.step 8 (by decide) rfl)
            · intro L vs a w6 hB hL hd hI
              have b70 : a.tmps[70]?.getD undef = .pointer (some ⟨w4.heap.size, 1, none⟩) := (hB.val 8 (hd ⟨8, .data⟩ (by simp) rfl) 70 rfl).trans (hI.1 8 (by decide) (hd ⟨8, .data⟩ (by simp) rfl))
              have hx : Below (wr).heap.size (wr) w6 := hI.ext (hB.wait 9 15 hL (by kernel_rfl))
              have q1 := (HG.out.below hx).cell 1
              exact stepI_run (v := .slice (some ⟨g2, 0, none⟩) ((m + 1) * (m + 1)) c5) rfl (by simp [execOp, go_sem, Act.eval, b70, q1]) (hI.step 9 (by decide) rfl)
            · intro L vs a w6 hB hL hd hI
              have b10 : a.tmps[10]?.getD undef = .int .i64 (p : Int) := hB.at 10 (by kernel_rfl)
              have hx : Below (wr).heap.size (wr) w6 := hI.ext (hB.wait 10 15 hL (by kernel_rfl))
              exact stepI_run (v := .int .i64 (p : Int)) rfl (by simp [execOp, go_sem, Act.eval, b10]) (hI.step 10 (by decide) rfl)
            · intro L vs a w6 hB hL hd hI
              have b71 : a.tmps[71]?.getD undef = .slice (some ⟨g2, 0, none⟩) ((m + 1) * (m + 1)) c5 := (hB.val 9 (hd ⟨9, .data⟩ (by simp) rfl) 71 rfl).trans (hI.1 9 (by decide) (hd ⟨9, .data⟩ (by simp) rfl))
              have b72 : a.tmps[72]?.getD undef = .int .i64 (p : Int) := (hB.val 10 (hd ⟨10, .data⟩ (by simp) rfl) 72 rfl).trans (hI.1 10 (by decide) (hd ⟨10, .data⟩ (by simp) rfl))
              have hx : Below (wr).heap.size (wr) w6 := hI.ext (hB.wait 11 15 hL (by kernel_rfl))
              exact stepI_run (v := .pointer (some ⟨g2, p, none⟩)) rfl (by simp [execOp, go_sem, Act.eval, b71, b72, hp2, addr_lit0]) (hI.step 11 (by decide) rfl)
            · intro L vs a w6 hB hL hd hI
              have b73 : a.tmps[73]?.getD undef = .pointer (some ⟨g2, p, none⟩) := (hB.val 11 (hd ⟨11, .data⟩ (by simp) rfl) 73 rfl).trans (hI.1 11 (by decide) (hd ⟨11, .data⟩ (by simp) rfl))
              have hx : Below (wr).heap.size (wr) w6 := hI.ext (hB.wait 12 15 hL (by kernel_rfl))
              have qc := HC2.out w6 hx
              exact stepI_run (v := .int .i64 y2) rfl (by simp [execOp, go_sem, Act.eval, b73, qc]) (hI.step 12 (by decide) rfl)
            · intro L vs a w6 hB hL hd hI
              have b69 : a.tmps[69]?.getD undef = .int .i64 y1 := (hB.val 7 (hd ⟨7, .data⟩ (by simp) rfl) 69 rfl).trans (hI.1 7 (by decide) (hd ⟨7, .data⟩ (by simp) rfl))
              have b74 : a.tmps[74]?.getD undef = .int .i64 y2 := (hB.val 12 (hd ⟨12, .data⟩ (by simp) rfl) 74 rfl).trans (hI.1 12 (by decide) (hd ⟨12, .data⟩ (by simp) rfl))
              have hx : Below (wr).heap.size (wr) w6 := hI.ext (hB.wait 13 15 hL (by kernel_rfl))
              exact stepI_run (v := .int .i64 x) rfl (by simp [go_sem, Act.eval, b69, b74]; split <;> omega) (hI.step 13 (by decide) rfl)
            · intro L vs a w6 hB hL hd hI
              have b63 : a.tmps[63]?.getD undef = .slice (some ⟨g, 0, none⟩) ((m + 1) * (m + 1)) c3 := (hB.val 1 (hd ⟨1, .data⟩ (by simp) rfl) 63 rfl).trans (hI.1 1 (by decide) (hd ⟨1, .data⟩ (by simp) rfl))
              have b64 : a.tmps[64]?.getD undef = .int .i64 (p : Int) := (hB.val 2 (hd ⟨2, .data⟩ (by simp) rfl) 64 rfl).trans (hI.1 2 (by decide) (hd ⟨2, .data⟩ (by simp) rfl))
              have hx : Below (wr).heap.size (wr) w6 := hI.ext (hB.wait 14 15 hL (by kernel_rfl))
              exact stepI_run (v := .pointer (some ⟨g, p, none⟩)) rfl (by simp [execOp, go_sem, Act.eval, b63, b64, hp2, addr_lit0]) (hI.step 14 (by decide) rfl)
            · intro L vs a w6 hB hL hd hI
              have b76 : a.tmps[76]?.getD undef = .pointer (some ⟨g, p, none⟩) := (hB.val 14 (hd ⟨14, .data⟩ (by simp) rfl) 76 rfl).trans (hI.1 14 (by decide) (hd ⟨14, .data⟩ (by simp) rfl))
              have b75 : a.tmps[75]?.getD undef = .int .i64 x := (hB.val 13 (hd ⟨13, .data⟩ (by simp) rfl) 75 rfl).trans (hI.1 13 (by decide) (hd ⟨13, .data⟩ (by simp) rfl))
              have hx : Below (wr).heap.size (wr) w6 := hI.ext hL
              have f1 := (HO.out.keep hx).frozenAt p
              have q1 := HC1.out w6 hx
              exact stepI_skip (w' := w6.setCell (⟨g, p, none⟩) (.int .i64 x)) rfl (by simp [execOp, go_sem, Act.eval, b76, b75, f1, q1]) (hI.put hL)
          · intro L vs w7 hall hI
            obtain ⟨w6, HEXT, hw7⟩ := hI.fin (hall 15 (by decide))
            subst hw7
            clear hI hall
            simp only [putAll, Act.put, List.setIfInBounds_toArray, List.set_cons_zero, List.set_cons_succ, Nat.zero_add, Nat.reduceAdd]
            have HO2 := Lib.hid (show Own (w6.setCell ⟨g, p, none⟩ (.int .i64 x)) w9.heap.size (.slice (some ⟨g, 0, none⟩) ((m + 1) * (m + 1)) c3) ((m + 1) * (m + 1)) (mixL (m + 1) (jnB (m + 1) l1 l2) (gt (m + 1) l1) (p + 1)) from by
              have h1 := own_upd (p := p) (x := x) HO.out HEXT.out
              rwa [HSET.out] at h1)
            have HQ2 := Lib.hid (Own.other (k := g) (i := p) (y := .int .i64 x) (show Own w6 (w2.heap.size + 1) (.slice (some ⟨g2, 0, none⟩) ((m + 1) * (m + 1)) c5) ((m + 1) * (m + 1)) l2 from HQ.out.keep HEXT.out) (by intro e; simp [Value.ownBlock] at e; exact hg12 e))
            have HBE2 := Lib.hid ((HBE.out.trans (HEXT.out.mono HBE.out.size)).setCell (p := ⟨g, p, none⟩) (by show w.heap.size ≤ g; omega) (.int .i64 x))
            have HRB2 := Lib.hid ((HRB.out.below HEXT.out).other (c := g) (i := p) (u := .int .i64 x) (by omega))
            have HF2 := Lib.hid ((HF.out.below HEXT.out).other (c := g) (i := p) (u := .int .i64 x) (by omega))
            have HG2 := Lib.hid ((HG.out.below HEXT.out).other (c := g) (i := p) (u := .int .i64 x) (by omega))
            clear HEXT HO HQ HBE HRB HF HG HSET HC1 HC2 hxx hp2
            go_wp2_with fail
            go_roundw
            case rel => exact ⟨p + 1, by omega, by go_num, HO2, HQ2, HBE2, HRB2, HF2, HG2.out⟩
            case measure => simp [intOf]; omega
        · have hpe : p = ((m + 1) * (m + 1)) := by omega
          have dj : decide ((p : Int) < ((m : Int) + 1) * ((m : Int) + 1)) = false := decide_eq_false (by
            intro h
            have h9 : (p : Int) < ((((m + 1) * (m + 1)) : Nat) : Int) := by push_cast; exact h
            omega)
          have HO2 := Lib.hid (show Own wr w9.heap.size (.slice (some ⟨g, 0, none⟩) ((m + 1) * (m + 1)) c3) ((m + 1) * (m + 1)) (flat (m + 1) (jnB (m + 1) l1 l2)) from by have h9 := HO.out; rw [hpe, mix_all] at h9; exact h9)
          obtain ⟨y0, y1⟩ := HRB.out.k2
          obtain ⟨f0, f1⟩ := HRB.out.f2
          clear hpe HO hg8
          go_wp2_with fail
          refine bodyPost_ret (v := .tuple #[.agg #[.int .i64 (m : Int), .slice (some ⟨g, 0, none⟩) ((m + 1) * (m + 1)) c3], .int .i64 0]) (bx_ret2 ((HRB.out.set 0 _).set 1 _) Try.results32 _ rfl Try.underlying24 rfl (by kernel_rfl)) rfl ?_
          exact zp_fin HR.out (by omega) HBE.out (by omega) HO2.out (by
            intro e
            have e2 : g = w.heap.size + 2 := by simpa [Value.ownBlock] using e
            omega)
end Go.Proofs.Ytepeeeiekeppjaa
