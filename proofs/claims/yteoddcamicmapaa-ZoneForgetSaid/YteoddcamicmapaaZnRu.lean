/- Layer 13: the reference's Empty and Sub (tools/gen_zv.py). -/
import Derived.Test.YteoddcamicmapaaZnRd
import Derived.Test.YteoddcamicmapaaZnRn
import Derived.Test.YteoddcamicmapaaZnJo
namespace Go.Proofs.Yteoddcamicmapaa
open Go.RowKit

set_option maxRecDepth 20000 in
set_option maxHeartbeats 400000 in
theorem rempty_any (m : Nat) (hm : m ≤ 24) (w : World) : Calls Try.prog 56 #[.int .i64 (m : Int)] w fun e w' => ∃ v, e = .returned (.agg #[.int .i64 (m : Int), v]) ∧ Own w' w.heap.size v ((m + 1) * (m + 1)) (emL (m + 1)) ∧ Below w.heap.size w w' := by
  have HX := Lib.hid (Bx.new w 24 #[.int .i64 0, .slice none 0 0])
  have HN := Lib.hid (show newR (m : Int) = (((m : Int), flat (m + 1) fuB), .int .i64 0) by unfold newR possB; rw [if_pos (decide_eq_true (by omega)), Int.toNat_natCast])
  go_enter Try.func56, Try.ntmps56
  go_wp2_with fail
  refine (rnew_any (m : Int) _).mono ?_; rintro e w2 ⟨v, rfl, ho, hb⟩; rw [HN.out] at ho ⊢
  dsimp only at ho ⊢
  rw [flat_len] at ho
  have HO := Lib.hid ho
  obtain ⟨g, cap, rfl, hg1, hg2, -⟩ := own_shape HO.out (Nat.mul_le_mul (by omega : 1 ≤ m + 1) (by omega : 1 ≤ m + 1))
  have hg1' : w.heap.size < g := by simp at hg1; omega
  have hx2 := HX.out.below hb
  have HX2 := Lib.hid hx2
  have HB2 := Lib.hid ((al1 w (.cells #[.int .i64 0, .slice none 0 0] 24)).trans (hb.mono (by simp)))
  have HO2 := Lib.hid (show Own (w2.alloc (.cells #[.int .i64 (m : Int), .slice (some ⟨g, 0, none⟩) ((m + 1) * (m + 1)) cap] 24)) _ _ _ _ from HO.out.keep (al1 w2 _))
  have hpp : (0 : Int) < ((m : Int) + 1) * ((m : Int) + 1) := Int.mul_pos (by omega) (by omega)
  have hq := own_at HO2.out 0 (by rw [flat_len]; exact Nat.mul_pos (by omega) (by omega))
  have hf := HO2.out.frozenAt 0
  have hp2 : ¬ (((m : Int) + 1) * ((m : Int) + 1) ≤ 0) := by omega
  clear ho hb HX hx2
  have hgz : g ≠ w2.heap.size := by omega
  have hx3 := (HX2.out.other (c := g) (i := 0) (u := .int .i64 (-20001)) (by omega)).alloc (.cells #[.int .i64 (m : Int), .slice (some ⟨g, 0, none⟩) ((m + 1) * (m + 1)) cap] 24)
  have hz3 := Bx.new (w2.setCell ⟨g, 0, none⟩ (.int .i64 (-20001))) 24 #[.int .i64 (m : Int), .slice (some ⟨g, 0, none⟩) ((m + 1) * (m + 1)) cap]
  rw [size_set] at hz3
  obtain ⟨x0, x1⟩ := hx3.k2
  obtain ⟨f0, f1⟩ := hx3.f2
  obtain ⟨y0, y1⟩ := hz3.k2
  obtain ⟨z0, z1⟩ := (Bx.new w2 24 #[.int .i64 (m : Int), .slice (some ⟨g, 0, none⟩) ((m + 1) * (m + 1)) cap]).k2
  have HX3 := Lib.hid hx3
  have HO3 := Lib.hid (show Own ((w2.setCell ⟨g, 0, none⟩ (.int .i64 (-20001))).alloc (.cells #[.int .i64 (m : Int), .slice (some ⟨g, 0, none⟩) ((m + 1) * (m + 1)) cap] 24)) _ _ _ (emL (m + 1)) from Own.keep (show Own (w2.setCell ⟨g, 0, none⟩ (.int .i64 (-20001))) _ _ _ (emL (m + 1)) from own_put HO.out 0 (-20001)) (al1 _ _))
  have HB3 := Lib.hid ((HB2.out.setCell (p := ⟨g, 0, none⟩) (by show w.heap.size ≤ g; omega) (.int .i64 (-20001))).alloc (by have := HB2.out.size; rw [size_set]; exact this) (.cells #[.int .i64 (m : Int), .slice (some ⟨g, 0, none⟩) ((m + 1) * (m + 1)) cap] 24))
  clear hx3 hz3 HO
  go_wp2_with fail
  refine bodyPost_ret (v := .agg #[.int .i64 (m : Int), .slice (some ⟨g, 0, none⟩) ((m + 1) * (m + 1)) cap]) (bx_ret ((HX3.out.set 0 _).set 1 _) Try.results56 _ rfl Try.underlying24 rfl (by kernel_rfl)) rfl ?_
  have hne : (Value.slice (some ⟨g, 0, none⟩) ((m + 1) * (m + 1)) cap).ownBlock ≠ some w.heap.size := by
    intro e
    have e2 : g = w.heap.size := by simpa [Value.ownBlock] using e
    omega
  exact ⟨_, rfl, ((HO3.out.other hne).other hne).mono (by simp), (HB3.out.setCell (p := ⟨w.heap.size, 0, none⟩) (Nat.le_refl _) _).setCell (p := ⟨w.heap.size, 1, none⟩) (Nat.le_refl _) _⟩
set_option maxRecDepth 20000 in
set_option maxHeartbeats 1000000 in
theorem rsub_any (N M : Int) (v u : Value) (a b : List Int) (w : World) (h : Sl iv w v a) (hl : a.length ≤ 9223372036854775807) (h2 : Sl iv w u b) (hl2 : b.length ≤ 9223372036854775807) :
    Calls Try.prog 36 #[.agg #[.int .i64 N, v], .agg #[.int .i64 M, u]] w (Tells w (.bool (subR N a M b))) := by
  obtain ⟨A, c, rfl⟩ := h.shape
  obtain ⟨A2, c2, rfl⟩ := h2.shape
  have H := Lib.hid h
  have H2 := Lib.hid h2
  clear h h2
  obtain ⟨R, hR⟩ : ∃ R, R = subR N a M b := ⟨_, rfl⟩
  rw [← hR]
  have HR := Lib.hid hR
  clear hR
  cases hp : zvB N a with
  | false =>
    have HA := Lib.hid (show aliB N a M b = false from by unfold aliB; rw [hp]; rfl)
    have Hp := Lib.hid hp
    clear hp
    go_enter Try.func36, Try.ntmps36
    go_wp2_with fail
    refine (rvalid_any N _ a _ (H.out.below (al2 w _ _)) hl).mono ?_; rintro e w1 ⟨rfl, hb⟩; rw [Hp.out]
    obtain ⟨HX, HD, HB⟩ := two_boxes rfl rfl hb
    clear hb
    go_wp2_with fail
    have hr : R = false := by rw [HR.out]; unfold subR; rw [HA.out]; rfl
    go_ret
    rw [hr]
    exact Tells.of HB.out
  | true =>
  cases hq : zvB M b with
  | false =>
    have HA := Lib.hid (show aliB N a M b = false from by unfold aliB; rw [hp, hq]; rfl)
    have Hp := Lib.hid hp
    have Hq := Lib.hid hq
    clear hp hq
    go_enter Try.func36, Try.ntmps36
    go_wp2_with fail
    refine (rvalid_any N _ a _ (H.out.below (al2 w _ _)) hl).mono ?_; rintro e w1 ⟨rfl, hb⟩; rw [Hp.out]
    obtain ⟨HX, HD, HB⟩ := two_boxes rfl rfl hb
    clear hb
    obtain ⟨d0, d1⟩ := HD.out.k2
    go_wp2_with fail
    refine (rvalid_any M _ b _ (H2.out.below HB.out) hl2).mono ?_; rintro e w2 ⟨rfl, hb⟩; rw [Hq.out]
    have HB2 := Lib.hid (HB.out.trans (hb.mono HB.out.size))
    have HX2 := Lib.hid (HX.out.below hb)
    have HD2 := Lib.hid (HD.out.below hb)
    clear hb d0 d1 HB HX HD
    obtain ⟨x0, x1⟩ := HX2.out.k2
    obtain ⟨d0, d1⟩ := HD2.out.k2
    clear x0 x1 d0 d1
    have HB := HB2
    go_wp2_with fail
    have hr : R = false := by rw [HR.out]; unfold subR; rw [HA.out]; rfl
    go_ret
    rw [hr]
    exact Tells.of HB.out
  | true =>
  by_cases hN : N = M
  rotate_left
  · have HA := Lib.hid (show aliB N a M b = false from by unfold aliB; rw [hp, hq, decide_eq_false hN]; rfl)
    have hne : (N != M) = true := by rw [bne_iff_ne]; exact hN
    have Hp := Lib.hid hp
    have Hq := Lib.hid hq
    clear hp hq hN
    go_enter Try.func36, Try.ntmps36
    go_wp2_with fail
    refine (rvalid_any N _ a _ (H.out.below (al2 w _ _)) hl).mono ?_; rintro e w1 ⟨rfl, hb⟩; rw [Hp.out]
    obtain ⟨HX, HD, HB⟩ := two_boxes rfl rfl hb
    clear hb
    obtain ⟨d0, d1⟩ := HD.out.k2
    go_wp2_with fail
    refine (rvalid_any M _ b _ (H2.out.below HB.out) hl2).mono ?_; rintro e w2 ⟨rfl, hb⟩; rw [Hq.out]
    have HB2 := Lib.hid (HB.out.trans (hb.mono HB.out.size))
    have HX2 := Lib.hid (HX.out.below hb)
    have HD2 := Lib.hid (HD.out.below hb)
    clear hb d0 d1 HB HX HD
    obtain ⟨x0, x1⟩ := HX2.out.k2
    obtain ⟨d0, d1⟩ := HD2.out.k2
    have HB := HB2
    go_wp2_with fail
    have hr : R = false := by rw [HR.out]; unfold subR; rw [HA.out]; rfl
    go_ret
    rw [hr]
    exact Tells.of HB.out
  have hA : aliB N a M b = true := by unfold aliB; rw [hp, hq, decide_eq_true hN]; rfl
  obtain ⟨m, rfl, rfl, hm, hz1, hz2⟩ := aliB_nat hA
  have HA := Lib.hid hA
  have HZ1 := Lib.hid hz1
  have HZ2 := Lib.hid hz2
  have hne : ((m : Int) != (m : Int)) = false := by rw [bne_eq_false_iff_eq]
  have Hp := Lib.hid hp
  have Hq := Lib.hid hq
  clear hA hz1 hz2 hp hq hN
  go_enter Try.func36, Try.ntmps36
  go_wp2_with fail
  refine (rvalid_any (m : Int) _ a _ (H.out.below (al2 w _ _)) hl).mono ?_; rintro e w1 ⟨rfl, hb⟩; rw [Hp.out]
  obtain ⟨HX, HD, HB⟩ := two_boxes rfl rfl hb
  clear hb
  obtain ⟨d0, d1⟩ := HD.out.k2
  go_wp2_with fail
  refine (rvalid_any (m : Int) _ b _ (H2.out.below HB.out) hl2).mono ?_; rintro e w2 ⟨rfl, hb⟩; rw [Hq.out]
  have HB2 := Lib.hid (HB.out.trans (hb.mono HB.out.size))
  have HX2 := Lib.hid (HX.out.below hb)
  have HD2 := Lib.hid (HD.out.below hb)
  clear hb d0 d1 HB HX HD
  obtain ⟨x0, x1⟩ := HX2.out.k2
  obtain ⟨d0, d1⟩ := HD2.out.k2
  go_wp2_with fail
  clear x0 x1 d0 d1 hne
  refine (rclose_any m _ a _ (H.out.below HB2.out) hl).mono ?_; rintro e w3 ⟨v, rfl, ho, hb⟩
  obtain ⟨A3, c3, rfl⟩ := own_shapeG ho
  have HB3 := Lib.hid (HB2.out.trans (hb.mono HB2.out.size))
  have HD3 := Lib.hid (HD2.out.below hb)
  clear hb HB2 HX2 HD2
  obtain ⟨r1, hr1⟩ : ∃ r1, r1 = closeZ (m : Int) a := ⟨_, rfl⟩
  rw [← hr1] at ho ⊢
  have hfacts : ∃ n l b1, r1 = ((n, l), .bool b1) ∧ (b1 = false → l = [] ∧ R = true) ∧ (b1 = true → l.length = (m + 1) * (m + 1) ∧ R = perB (m + 1) (gt (m + 1) l) b) := by
    have hr := HR.out
    unfold subR at hr
    rw [HA.out, Bool.true_and, show ((m : Int) + 1).toNat = m + 1 by omega] at hr
    cases hc : closeR (m : Int) a with
    | none =>
      rw [hc] at hr
      rw [closeZ_none hc] at hr1
      exact ⟨_, _, _, hr1, fun _ => ⟨rfl, hr⟩, fun h => by cases h⟩
    | some cl =>
      rw [hc] at hr
      rw [closeZ_some hc] at hr1
      exact ⟨_, _, _, hr1, (fun h => by cases h), fun _ => ⟨cls_len HZ1.out ((closeR_nat HZ1.out).symm.trans hc), hr⟩⟩
  obtain ⟨n1, l1, b1, rfl, hf, ht⟩ := hfacts
  dsimp only at ho ⊢
  have HT := Lib.hid ht
  have HF := Lib.hid hf
  have hq1 : l1.length ≤ 1000 := by
    cases b1 with
    | false => rw [(hf rfl).1]; simp
    | true => rw [(ht rfl).1]; exact Nat.le_trans (Nat.mul_le_mul (by omega : m + 1 ≤ 25) (by omega : m + 1 ≤ 25)) (by decide)
  have HS := Lib.hid ((Own.sl (show Own w3 _ _ _ l1 from ho)).below (al1 w3 (.cells #[.int .i64 n1, .slice A3 l1.length c3] 24)))
  have HX4 := Lib.hid (Bx.new w3 24 #[.int .i64 n1, .slice A3 l1.length c3])
  have HD4 := Lib.hid (HD3.out.alloc (.cells #[.int .i64 n1, .slice A3 l1.length c3] 24))
  have HB4 := Lib.hid (HB3.out.alloc HB3.out.size (.cells #[.int .i64 n1, .slice A3 l1.length c3] 24))
  clear ho hr1 HD3 HB3 hf ht
  generalize hcb : w3.heap.size = cb at *
  go_wp2_with fail
  generalize hw4 : w3.alloc (.cells #[.int .i64 n1, .slice A3 l1.length c3] 24) = w4 at *
  go_loopw [7] (fun zz wr => ∃ k : Nat, k ≤ l1.length ∧ zz = .int .i64 k ∧ Hid (∀ p, p < k → ∀ h1 : p < l1.length, ∀ h2 : p < b.length, l1[p] ≤ b[p]) ∧ Hid (Below w4.heap.size w4 wr)) (fun i _ => l1.length - (intOf i).toNat)
  case atStart => exact ⟨0, Nat.zero_le _, rfl, Lib.hid (by intro p hp; omega), Lib.hid (Below.refl _ _)⟩
  case round =>
    obtain ⟨k, hk, rfl, Hall, HW⟩ := hrel
    have HB := Lib.hid (HB4.out.trans (HW.out.mono HB4.out.size))
    have HX := Lib.hid (HX4.out.below HW.out)
    have HD := Lib.hid (HD4.out.below HW.out)
    obtain ⟨x0, x1⟩ := HX.out.k2
    obtain ⟨d0, d1⟩ := HD.out.k2
    by_cases hlt : k < l1.length
    · obtain rfl : b1 = true := by
        cases b1 with
        | true => rfl
        | false => have := (HF.out rfl).1; rw [this] at hlt; simp at hlt
      have hll := (HT.out rfl).1
      have hlt2 : k < b.length := by rw [HZ2.out.len, ← hll]; exact hlt
      obtain ⟨ad, c', hs, hcap, hcell⟩ := sl_cell (HS.out.below HW.out) k hlt
      simp only [Value.slice.injEq, true_and] at hs
      obtain ⟨rfl, rfl⟩ := hs
      obtain ⟨ad2, c2', hs2, hcap2, hcell2⟩ := sl_cell (H2.out.below HB.out) k hlt2
      simp only [Value.slice.injEq, true_and] at hs2
      obtain ⟨rfl, rfl⟩ := hs2
      have Hn := Lib.hid (show l1[k] ≤ b[k] → ∀ p, p < k + 1 → ∀ h1 : p < l1.length, ∀ h2 : p < b.length, l1[p] ≤ b[p] from fun h p hp h1 h2 => by
        by_cases e : p = k
        · subst e; exact h
        · exact Hall.out p (by omega) h1 h2)
      have Hb := Lib.hid (show b[k] < l1[k] → R = false from fun h => by
        rw [(HT.out rfl).2]
        refine perB_bad (i := k / (m + 1)) (j := k % (m + 1)) (sq_row (by rw [← hll]; exact hlt)) (sq_col (by rw [← hll]; exact hlt)) ?_
        rw [← gt_div hlt, ← gt_div hlt2]; exact h)
      generalize l1[k] = x at *
      generalize b[k] = y at *
      unfold iv at hcell hcell2
      clear hll
      by_cases hx : x ≤ y
      · have Hn2 := Lib.hid (Hn.out hx)
        have hxy : decide (y < x) = false := decide_eq_false (by omega)
        clear Hn Hb
        go_wp2_with fail
        go_quiet (fail)
        have HW2 := Lib.hid (HW.out.trans ((below_drewN wr nq).mono HW.out.size))
        clear HB HX HD HW x0 x1 d0 d1 hcell hcell2
        go_wp2_with fail
        go_roundw
        case rel => exact ⟨k + 1, by omega, by go_num, Hn2, HW2⟩
        case measure => simp [intOf]; omega
      · have hr := Hb.out (by omega)
        have hxy : decide (y < x) = true := decide_eq_true (by omega)
        clear Hn Hb
        go_wp2_with fail
        go_quiet (fail)
        have HB2 := Lib.hid (HB.out.trans ((below_drewN wr nq).mono HB.out.size))
        clear HB HX HD HW x0 x1 d0 d1 hcell hcell2
        go_wp2_with fail
        go_ret
        rw [hr]
        exact Tells.of HB2.out
    · have hr : R = true := by
        cases b1 with
        | false => exact (HF.out rfl).2
        | true =>
          rw [(HT.out rfl).2, perB_iff]
          intro i j hi hj
          have hll := (HT.out rfl).1
          have h9 := sq_lt hi hj
          have h8 := Hall.out (i * (m + 1) + j) (by omega) (by omega) (by rw [HZ2.out.len]; exact h9)
          rwa [gt_at (n := m + 1), gt_at (n := m + 1)] at h8
      have hkl : k = l1.length := by omega
      clear hk
      subst hkl
      go_wp2_with fail
      go_ret
      rw [hr]
      exact Tells.of HB.out
end Go.Proofs.Yteoddcamicmapaa
