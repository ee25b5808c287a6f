/- Layer 13: the reference's Range (tools/gen_zg.py). -/
import Derived.Test.YteoddcamicmapaaZnRd
import Derived.Test.YteoddcamicmapaaZnRg
namespace Go.Proofs.Yteoddcamicmapaa
open Go.RowKit

set_option maxRecDepth 20000 in
set_option maxHeartbeats 400000 in
theorem rrange_any (N x : Int) (v : Value) (b : List Int) (w : World) (h : Sl iv w v b) (hl : b.length ≤ 9223372036854775807) :
    Calls Try.prog 30 #[.agg #[.int .i64 N, v], .int .i64 x] w (Tells w (.tuple #[.int .i64 (rangeR N b x).1, .int .i64 (rangeR N b x).2.1, .bool (rangeR N b x).2.2])) := by
  obtain ⟨A, c, rfl⟩ := h.shape
  have H := Lib.hid h
  clear h
  obtain ⟨R, hR⟩ : ∃ R, R = rangeR N b x := ⟨_, rfl⟩
  rw [← hR]
  unfold rangeR at hR
  cases hc : closeR N b with
  | none =>
    rw [hc] at hR
    dsimp only at hR
    subst hR
    have HC := Lib.hid (closeZ_none hc)
    clear hc
    go_enter Try.func30, Try.ntmps30
    go_wp2_with fail
    refine (rclose_any N _ b _ (H.out.below (al1 w _)) hl).mono ?_; rintro e w2 ⟨v, rfl, ho, hb2⟩
    rw [HC.out] at ho ⊢
    have HB := Lib.hid ((al1 w (.cells #[.int .i64 N, .slice A b.length c] 24)).trans (hb2.mono (by simp)))
    obtain ⟨A3, c3, rfl⟩ := own_shapeG ho
    clear ho hb2
    go_wp2_with fail
    go_ret3
    exact Tells.of (HB.out.alloc HB.out.size _)
  | some cl =>
    have hzv : zvB N b = true := by
      cases h : zvB N b with
      | true => rfl
      | false => rw [closeR_bad h] at hc; cases hc
    obtain ⟨m, rfl, hm, -, hz⟩ := zv_nat hzv
    rw [hc] at hR
    dsimp only at hR
    rw [show ((m : Int) + 1).toNat = m + 1 by omega] at hR
    have HC := Lib.hid (closeZ_some hc)
    have hcl := (closeR_nat hz).symm.trans hc
    have HIS := Lib.hid (cls_is hz hcl)
    have HCL := Lib.hid (cls_len hz hcl)
    clear hc hzv hz hcl
    have HX0 := Lib.hid (Bx.new w 24 #[.int .i64 (m : Int), .slice A b.length c])
    by_cases hx : 0 ≤ x ∧ x < (m : Int)
    · rw [if_pos hx] at hR
      obtain ⟨x, rfl⟩ : ∃ q : Nat, x = q := ⟨x.toNat, by omega⟩
      rw [Int.toNat_natCast] at hR
      subst hR
      have hxm : x < m := by omega
      have HV := Lib.hid (show decide (0 ≤ (x : Int) ∧ (x : Int) < (m : Int)) = true from decide_eq_true hx)
      have HW := Lib.hid (show IntKind.i64.wrap ((x : Int) + 1) = (x : Int) + 1 from by rw [IntKind.wrap_i64]; omega)
      have hy1 : -20000 ≤ gt (m + 1) cl 0 (x + 1) ∧ gt (m + 1) cl 0 (x + 1) ≤ 20000 := by
        have h1 := HIS.out.lo (i := 0) (j := x + 1) (by omega) (by omega)
        have h2 := HIS.out.hi (i := 0) (j := x + 1) (by omega) (by omega)
        have h3 := fuB_hi (x + 1) 0; have h4 := fuB_hi 0 (x + 1)
        omega
      have HN := Lib.hid (show IntKind.i64.wrap (-gt (m + 1) cl 0 (x + 1)) = -gt (m + 1) cl 0 (x + 1) from by rw [IntKind.wrap_i64]; omega)
      clear hx hy1
      go_enter Try.func30, Try.ntmps30
      go_wp2_with fail
      refine (rclose_any m _ b _ (H.out.below (al1 w _)) hl).mono ?_; rintro e w2 ⟨v, rfl, ho, hb2⟩
      rw [HC.out] at ho ⊢
      have HB := Lib.hid ((al1 w (.cells #[.int .i64 (m : Int), .slice A b.length c] 24)).trans (hb2.mono (by simp)))
      obtain ⟨A3, c3, rfl⟩ := own_shapeG ho
      dsimp only at ho ⊢
      have HB4 := Lib.hid (HB.out.alloc HB.out.size (.cells #[.int .i64 (m : Int), .slice A3 cl.length c3] 24))
      obtain ⟨x0, x1⟩ := ((HX0.out.below hb2).alloc (.cells #[.int .i64 (m : Int), .slice A3 cl.length c3] 24)).k2
      have hcl := HCL.out
      obtain ⟨g, cap, hg, hg1, hg2, -⟩ := own_shape ho (by rw [hcl]; exact Nat.mul_pos (by omega) (by omega))
      simp only [Value.slice.injEq] at hg
      obtain ⟨rfl, -, rfl⟩ := hg
      rw [hcl] at ho
      have hc1 := own_gt (show Own w2 _ _ _ cl from ho) hcl (show 0 < m + 1 by omega) (show x + 1 < m + 1 by omega) _ (al1 w2 (.cells #[.int .i64 (m : Int), .slice (some ⟨g, 0, none⟩) cl.length c3] 24))
      have hc2 := own_gt (show Own w2 _ _ _ cl from ho) hcl (show x + 1 < m + 1 by omega) (show 0 < m + 1 by omega) _ (al1 w2 (.cells #[.int .i64 (m : Int), .slice (some ⟨g, 0, none⟩) cl.length c3] 24))
      rw [show 0 * (m + 1) + (x + 1) = x + 1 by omega] at hc1
      rw [Nat.add_zero] at hc2
      have hq1 := sq_lt (n := m + 1) (i := 0) (j := x + 1) (by omega) (by omega)
      have hq2 := sq_lt (n := m + 1) (i := x + 1) (j := 0) (by omega) (by omega)
      have hp1 : ((x : Int) + 1) < (cl.length : Int) := by rw [hcl]; omega
      have hp2 : (((x + 1) * (m + 1) : Nat) : Int) < (cl.length : Int) := by rw [hcl]; omega
      have hmf := mul_few hm (show x + 1 ≤ m by omega)
      have hrm : ((x : Int) + 1) * ((m : Int) + 1) = (((x + 1) * (m + 1) : Nat) : Int) := by push_cast; rfl
      obtain ⟨r, hrr⟩ : ∃ r, (x + 1) * (m + 1) = r := ⟨_, rfl⟩
      rw [hrr] at hc2 hp2 hrm hmf
      have hw0 := HW.out
      have hw1 := HN.out
      have hw2 : IntKind.i64.wrap ((m : Int) + 1) = (m : Int) + 1 := by rw [IntKind.wrap_i64]; omega
      have hw3 : IntKind.i64.wrap (r : Int) = (r : Int) := by rw [IntKind.wrap_i64]; omega
      have ha1 := addr_lit0 g (x + 1)
      have ha2 := addr_lit0 g r
      have htn : ((x : Int) + 1).toNat = x + 1 := by omega
      have hcll : cl.length ≤ 1000 := by rw [hcl]; exact Nat.le_trans (Nat.mul_le_mul (by omega : m + 1 ≤ 25) (by omega : m + 1 ≤ 25)) (by decide)
      generalize gt (m + 1) cl 0 (x + 1) = y1 at *
      generalize gt (m + 1) cl (x + 1) 0 = y2 at *
      generalize cl.length = q at *
      clear ho hb2 HX0 hq1 hq2 hcl HCL hrr
      go_wp2_with fail
      go_quiet (fail)
      have HB5 := Lib.hid (HB4.out.trans ((below_drewN _ nq).mono HB4.out.size))
      clear HB4 x0 x1 hc1 hc2
      go_wp2_with fail
      go_ret3
      exact Tells.of HB5.out
    · rw [if_neg hx] at hR
      subst hR
      by_cases hx0 : x < 0
      · have dx : decide (x < 0) = true := decide_eq_true hx0
        clear hx
        go_enter Try.func30, Try.ntmps30
        go_wp2_with fail
        refine (rclose_any m _ b _ (H.out.below (al1 w _)) hl).mono ?_; rintro e w2 ⟨v, rfl, ho, hb2⟩
        rw [HC.out] at ho ⊢
        have HB := Lib.hid ((al1 w (.cells #[.int .i64 (m : Int), .slice A b.length c] 24)).trans (hb2.mono (by simp)))
        obtain ⟨A3, c3, rfl⟩ := own_shapeG ho
        dsimp only at ho ⊢
        obtain ⟨x0, x1⟩ := ((HX0.out.below hb2).alloc (.cells #[.int .i64 (m : Int), .slice A3 cl.length c3] 24)).k2
        have HB4 := Lib.hid (HB.out.alloc HB.out.size (.cells #[.int .i64 (m : Int), .slice A3 cl.length c3] 24))
        clear ho hb2 HX0
        go_wp2_with fail
        go_ret3
        exact Tells.of HB4.out
      · have dx : decide (x < 0) = false := decide_eq_false hx0
        have hx1 : (m : Int) ≤ x := by omega
        clear hx
        go_enter Try.func30, Try.ntmps30
        go_wp2_with fail
        refine (rclose_any m _ b _ (H.out.below (al1 w _)) hl).mono ?_; rintro e w2 ⟨v, rfl, ho, hb2⟩
        rw [HC.out] at ho ⊢
        have HB := Lib.hid ((al1 w (.cells #[.int .i64 (m : Int), .slice A b.length c] 24)).trans (hb2.mono (by simp)))
        obtain ⟨A3, c3, rfl⟩ := own_shapeG ho
        dsimp only at ho ⊢
        obtain ⟨x0, x1⟩ := ((HX0.out.below hb2).alloc (.cells #[.int .i64 (m : Int), .slice A3 cl.length c3] 24)).k2
        have HB4 := Lib.hid (HB.out.alloc HB.out.size (.cells #[.int .i64 (m : Int), .slice A3 cl.length c3] 24))
        clear ho hb2 HX0
        go_wp2_with fail
        go_ret3
        exact Tells.of HB4.out
end Go.Proofs.Yteoddcamicmapaa
