/- Layer 13: the contract of Range (tools/gen_zr.py). -/
import Derived.Test.YteoddcamicmapaaZnSb
namespace Go.Proofs.Yteoddcamicmapaa
open Go.RowKit

theorem cls_is {n : Nat} {b c : List Int} (h : Zv n b) (hc : cls n b = some c) : IsCl n (dm n b) (gt n c) := by
  have := cls_ok h
  rw [hc] at this
  exact this.2
theorem IsCl.hi {n : Nat} {b : List Int} {C : Nat → Nat → Int} (h : IsCl n (dm n b) C) {i j : Nat} (hi : i < n) (hj : j < n) : C i j ≤ fuB i j := by
  have := h.le i j hi hj; unfold dm at this; omega
theorem IsCl.lo {n : Nat} {b : List Int} {C : Nat → Nat → Int} (h : IsCl n (dm n b) C) {i j : Nat} (hi : i < n) (hj : j < n) : -fuB j i ≤ C i j := by
  have h1 := h.tr i i j hi hi hj
  have h2 := h.dg i hi
  have h3 := h.hi hj hi
  omega
theorem cls_zv {n : Nat} {b c : List Int} (h : Zv n b) (hc : cls n b = some c) : Zv n c :=
  have hi := cls_is h hc
  ⟨h.pos, h.few, cls_len h hc, fun i j h1 h2 => by have := hi.lo h1 h2; have := fuB_hi j i; omega, fun i j h1 h2 => by have := hi.hi h1 h2; have := fuB_hi i j; omega⟩
/-- Range. -/
noncomputable def rangeR (N : Int) (b : List Int) (x : Int) : Int × Int × Bool :=
  match closeR N b with
  | some c => if 0 ≤ x ∧ x < N then (-(gt (N + 1).toNat c 0 (x.toNat + 1)), gt (N + 1).toNat c (x.toNat + 1) 0, true) else (0, 0, false)
  | none => (0, 0, false)
set_option maxRecDepth 20000 in
set_option maxHeartbeats 400000 in
theorem range_any (N x : Int) (v : Value) (b : List Int) (w : World) (h : Sl iv w v b) (hl : b.length ≤ 9223372036854775807) :
    Calls Try.prog 29 #[.agg #[.int .i64 N, v], .int .i64 x] w (Tells w (.tuple #[.int .i64 (rangeR N b x).1, .int .i64 (rangeR N b x).2.1, .bool (rangeR N b x).2.2])) := by
  obtain ⟨A, c, rfl⟩ := h.shape
  have H := Lib.hid h
  clear h
  obtain ⟨R, hR⟩ : ∃ R, R = rangeR N b x := ⟨_, rfl⟩
  rw [← hR]
  unfold rangeR at hR
  cases hc : closeR N b with
  | none =>
    rw [hc] at hR
    dsimp only at hR
    subst hR
    have HC := Lib.hid (closeZ_none hc)
    clear hc
    go_enter Try.func29, Try.ntmps29
    go_wp2_with fail
    refine (close_any N _ b _ (H.out.below (al1 w _)) hl).mono ?_; rintro e w2 ⟨v, rfl, ho, hb2⟩
    rw [HC.out] at ho ⊢
    have HB := Lib.hid ((al1 w (.cells #[.int .i64 N, .slice A b.length c] 29)).trans (hb2.mono (by simp)))
    obtain ⟨A3, c3, rfl⟩ := own_shapeG ho
    clear ho hb2
    go_wp2_with fail
    go_ret3
    exact Tells.of (HB.out.alloc HB.out.size _)
  | some cl =>
    have hzv : zvB N b = true := by
      cases h : zvB N b with
      | true => rfl
      | false => rw [closeR_bad h] at hc; cases hc
    obtain ⟨m, rfl, hm, -, hz⟩ := zv_nat hzv
    rw [hc] at hR
    dsimp only at hR
    rw [show ((m : Int) + 1).toNat = m + 1 by omega] at hR
    have HC := Lib.hid (closeZ_some hc)
    have hcl := (closeR_nat hz).symm.trans hc
    have HIS := Lib.hid (cls_is hz hcl)
    have HCL := Lib.hid (cls_len hz hcl)
    clear hc hzv hz hcl
    have HX0 := Lib.hid (Bx.new w 29 #[.int .i64 (m : Int), .slice A b.length c])
    by_cases hx : 0 ≤ x ∧ x < (m : Int)
    · rw [if_pos hx] at hR
      obtain ⟨x, rfl⟩ : ∃ q : Nat, x = q := ⟨x.toNat, by omega⟩
      rw [Int.toNat_natCast] at hR
      subst hR
      have hxm : x < m := by omega
      have HV := Lib.hid (show decide (0 ≤ (x : Int) ∧ (x : Int) < (m : Int)) = true from decide_eq_true hx)
      have HW := Lib.hid (show IntKind.i64.wrap ((x : Int) + 1) = (x : Int) + 1 from by rw [IntKind.wrap_i64]; omega)
      have hy1 : -20000 ≤ gt (m + 1) cl 0 (x + 1) ∧ gt (m + 1) cl 0 (x + 1) ≤ 20000 := by
        have h1 := HIS.out.lo (i := 0) (j := x + 1) (by omega) (by omega)
        have h2 := HIS.out.hi (i := 0) (j := x + 1) (by omega) (by omega)
        have h3 := fuB_hi (x + 1) 0; have h4 := fuB_hi 0 (x + 1)
        omega
      have HN := Lib.hid (show IntKind.i64.wrap (-gt (m + 1) cl 0 (x + 1)) = -gt (m + 1) cl 0 (x + 1) from by rw [IntKind.wrap_i64]; omega)
      clear hx hy1
      go_enter Try.func29, Try.ntmps29
      go_wp2_with fail
      refine (close_any m _ b _ (H.out.below (al1 w _)) hl).mono ?_; rintro e w2 ⟨v, rfl, ho, hb2⟩
      rw [HC.out] at ho ⊢
      have HB := Lib.hid ((al1 w (.cells #[.int .i64 (m : Int), .slice A b.length c] 29)).trans (hb2.mono (by simp)))
      obtain ⟨A3, c3, rfl⟩ := own_shapeG ho
      dsimp only at ho ⊢
      have HS4 := Lib.hid (show Sl iv (w2.alloc (.cells #[.int .i64 (m : Int), .slice A3 cl.length c3] 29)) _ cl from (Own.sl ho).below (al1 w2 _))
      have HX4 := Lib.hid (Bx.new w2 29 #[.int .i64 (m : Int), .slice A3 cl.length c3])
      obtain ⟨x0, x1⟩ := ((HX0.out.below hb2).alloc (.cells #[.int .i64 (m : Int), .slice A3 cl.length c3] 29)).k2
      have HB4 := Lib.hid (HB.out.alloc HB.out.size (.cells #[.int .i64 (m : Int), .slice A3 cl.length c3] 29))
      have HSZ := Lib.hid (size_alloc w2 (.cells #[.int .i64 (m : Int), .slice A3 cl.length c3] 29))
      clear ho hb2 HX0
      go_wp2_with fail
      refine (hasVariable_any _ _ _ _).mono ?_; rintro e w5 ⟨rfl, hb5⟩; rw [HV.out]
      have HX5 := Lib.hid (HX4.out.below hb5)
      have HB5 := Lib.hid (HB4.out.trans (hb5.mono HB4.out.size))
      have HB1 := Lib.hid (show ∀ w6, Below w5.heap.size w5 w6 → Calls Try.prog 49 #[.agg #[.int .i64 (m : Int), .slice A3 cl.length c3], .int .i64 0, .int .i64 ((x : Int) + 1)] w6 (Tells w6 (.int .i64 (gt (m + 1) cl 0 (x + 1)))) from
        fun w6 h6 => bound_any m 0 (x + 1) _ cl w6 (HS4.out.below (hb5.trans (h6.mono hb5.size))) hm HCL.out (by omega) (by omega))
      have HB2 := Lib.hid (show ∀ w6, Below w5.heap.size w5 w6 → Calls Try.prog 49 #[.agg #[.int .i64 (m : Int), .slice A3 cl.length c3], .int .i64 ((x : Int) + 1), .int .i64 0] w6 (Tells w6 (.int .i64 (gt (m + 1) cl (x + 1) 0))) from
        fun w6 h6 => bound_any m (x + 1) 0 _ cl w6 (HS4.out.below (hb5.trans (h6.mono hb5.size))) hm HCL.out (by omega) (by omega))
      generalize gt (m + 1) cl 0 (x + 1) = y1 at *
      generalize gt (m + 1) cl (x + 1) 0 = y2 at *
      clear hb5 x0 x1 HX4 HB4 HS4
      go_wp2_with fail
      refine region_phi (n := 31) (Wd [(false, .agg #[.int .i64 (m : Int), .slice A3 cl.length c3]),
          (false, .int .i64 (x : Int)),
          (false, .int .i64 ((x : Int) + 1)),
          (false, .int .i64 y1),
          (false, .int .i64 (-y1)),
          (false, .agg #[.int .i64 (m : Int), .slice A3 cl.length c3]),
          (false, .int .i64 (x : Int)),
          (false, .int .i64 ((x : Int) + 1)),
          (false, .int .i64 y2),
          (false, .int .i64 (-y1)),
          (false, .int .i64 y2),
          (false, .bool true)]) (by kernel_rfl) (by kernel_rfl) rfl (fun _ _ _ _ h _ => h) (allOps_spec ?_) ?_
      · refine ⟨?_, ?_, ?_, ?_, ?_, ?_, ?_, ?_, ?_, ?_, ?_, ?_, trivial⟩
        · intro a w' hb hp
          have b7 : a.tmps[7]?.getD undef = .pointer (some ⟨w2.heap.size, 0, none⟩) := hb.at 7 (by kernel_rfl)
          have q0 := (HX5.out.below hb.ext).cell 0
          have q1 := (HX5.out.below hb.ext).cell 1
          exact wd_run rfl rfl (by simp [execOp, go_sem, Act.eval, b7, q0, q1])
        · intro a w' hb hp
          have b1 : a.tmps[1]?.getD undef = .int .i64 (x : Int) := hb.at 1 (by kernel_rfl)
          exact wd_run rfl rfl (by simp [execOp, go_sem, Act.eval, b1])
        · exact fun a w' hb hp => wd_run rfl rfl (by simp [execOp, go_sem, Act.eval, wd_get (hp ⟨1, .data⟩ (by simp) rfl _ rfl) rfl rfl, HW.out])
        · intro a w' hb hp
          refine step_call (f := 49) (args := #[.agg #[.int .i64 (m : Int), .slice A3 cl.length c3], .int .i64 0, .int .i64 ((x : Int) + 1)]) rfl (by simp [go_sem, wd_get (hp ⟨0, .data⟩ (by simp) rfl _ rfl) rfl rfl, wd_get (hp ⟨2, .data⟩ (by simp) rfl _ rfl) rfl rfl]) ?_
          exact (HB1.out _ hb.ext).mono fun e w9 h9 => ⟨_, h9.1, h9.2, wd_mk rfl fun _ => rfl⟩
        · exact fun a w' hb hp => wd_run rfl rfl (by simp [execOp, go_sem, Act.eval, wd_get (hp ⟨3, .data⟩ (by simp) rfl _ rfl) rfl rfl, HN.out])
        · intro a w' hb hp
          have b7 : a.tmps[7]?.getD undef = .pointer (some ⟨w2.heap.size, 0, none⟩) := hb.at 7 (by kernel_rfl)
          have q0 := (HX5.out.below hb.ext).cell 0
          have q1 := (HX5.out.below hb.ext).cell 1
          exact wd_run rfl rfl (by simp [execOp, go_sem, Act.eval, b7, q0, q1])
        · intro a w' hb hp
          have b1 : a.tmps[1]?.getD undef = .int .i64 (x : Int) := hb.at 1 (by kernel_rfl)
          exact wd_run rfl rfl (by simp [execOp, go_sem, Act.eval, b1])
        · exact fun a w' hb hp => wd_run rfl rfl (by simp [execOp, go_sem, Act.eval, wd_get (hp ⟨6, .data⟩ (by simp) rfl _ rfl) rfl rfl, HW.out])
        · intro a w' hb hp
          refine step_call (f := 49) (args := #[.agg #[.int .i64 (m : Int), .slice A3 cl.length c3], .int .i64 ((x : Int) + 1), .int .i64 0]) rfl (by simp [go_sem, wd_get (hp ⟨5, .data⟩ (by simp) rfl _ rfl) rfl rfl, wd_get (hp ⟨7, .data⟩ (by simp) rfl _ rfl) rfl rfl]) ?_
          exact (HB2.out _ hb.ext).mono fun e w9 h9 => ⟨_, h9.1, h9.2, wd_mk rfl fun _ => rfl⟩
        · exact fun a w' hb hp => wd_run rfl rfl (by simp [execOp, go_sem, Act.eval, wd_get (hp ⟨4, .data⟩ (by simp) rfl _ rfl) rfl rfl])
        · exact fun a w' hb hp => wd_run rfl rfl (by simp [execOp, go_sem, Act.eval, wd_get (hp ⟨8, .data⟩ (by simp) rfl _ rfl) rfl rfl])
        · exact fun a w' hb hp => wd_run rfl rfl (by simp [execOp, go_sem, Act.eval])
      · intro vs w2 hext hall
        have HEXT := Lib.hid hext
        have e9 : vs 9 = .int .i64 (-y1) := hall 9 (by decide) rfl
        have e10 : vs 10 = .int .i64 y2 := hall 10 (by decide) rfl
        have e11 : vs 11 = .bool true := hall 11 (by decide) rfl
        clear hext hall
        simp only [putAll, Act.put, List.setIfInBounds_toArray, List.set_cons_zero, List.set_cons_succ, Nat.zero_add, Nat.reduceAdd, e9, e10, e11]
        clear e9 e10 e11
        have HB6 := Lib.hid (HB5.out.trans (HEXT.out.mono HB5.out.size))
        clear HEXT
        go_wp2
        go_ret3
        exact Tells.of HB6.out
    · rw [if_neg hx] at hR
      subst hR
      have HV := Lib.hid (show decide (0 ≤ x ∧ x < (m : Int)) = false from decide_eq_false hx)
      clear hx
      go_enter Try.func29, Try.ntmps29
      go_wp2_with fail
      refine (close_any m _ b _ (H.out.below (al1 w _)) hl).mono ?_; rintro e w2 ⟨v, rfl, ho, hb2⟩
      rw [HC.out] at ho ⊢
      have HB := Lib.hid ((al1 w (.cells #[.int .i64 (m : Int), .slice A b.length c] 29)).trans (hb2.mono (by simp)))
      obtain ⟨A3, c3, rfl⟩ := own_shapeG ho
      dsimp only at ho ⊢
      obtain ⟨x0, x1⟩ := ((HX0.out.below hb2).alloc (.cells #[.int .i64 (m : Int), .slice A3 cl.length c3] 29)).k2
      have HB4 := Lib.hid (HB.out.alloc HB.out.size (.cells #[.int .i64 (m : Int), .slice A3 cl.length c3] 29))
      clear ho hb2 HX0
      go_wp2_with fail
      refine (hasVariable_any _ _ _ _).mono ?_; rintro e w5 ⟨rfl, hb5⟩; rw [HV.out]
      have HB5 := Lib.hid (HB4.out.trans (hb5.mono HB4.out.size))
      clear hb5 x0 x1 HB4
      go_wp2_with fail
      go_ret3
      exact Tells.of HB5.out
end Go.Proofs.Yteoddcamicmapaa
