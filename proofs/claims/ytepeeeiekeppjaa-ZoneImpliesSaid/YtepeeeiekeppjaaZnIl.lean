/- Layer 13: ZoneImplies, the walk (tools/gen_zm.py). -/
import Derived.Test.YtepeeeiekeppjaaZnPi
import Derived.Test.YtepeeeiekeppjaaZnLw
namespace Go.Proofs.Ytepeeeiekeppjaa
open Go.RowKit

set_option maxRecDepth 20000 in
set_option maxHeartbeats 2000000 in
theorem zoneimplies_walk (N : Int) (A1 : Option Addr) (c1 : Nat) (z : List Int) (X Y C : Int) (w : World)
    (h1 : Sl iv w (.slice A1 z.length c1) z) (hl1 : z.length ≤ 9223372036854775807) :
    Calls Try.prog 8 #[.agg #[.int .i64 N, .slice A1 z.length c1], .agg #[.int .i64 X, .int .i64 Y, .int .i64 C]] w (Tells w (.bool true)) := by
  have H1 := Lib.hid h1
  have HL1 := Lib.hid hl1
  clear h1 hl1
  go_enter Try.func8, Try.ntmps8
  go_wp2_with fail
  refine (awake_any _).mono ?_; rintro e w1 ⟨rfl, hb1⟩
  obtain ⟨HX1, HD1, HB1⟩ := two_boxes rfl rfl hb1
  obtain ⟨x0, x1⟩ := HX1.out.k2
  clear hb1
  go_wp2_with fail
  refine (few_any N A1 c1 z _ HL1.out).mono ?_; rintro e w2 ⟨rfl, hb2⟩
  have HB2 := Lib.hid (HB1.out.trans (hb2.mono HB1.out.size))
  have HX2 := Lib.hid (HX1.out.below hb2)
  have HD2 := Lib.hid (HD1.out.below hb2)
  clear hb2 x0 x1 HB1 HX1 HD1
  cases hfa : fewB N z with
  | false =>
    clear hfa HX2 HD2
    go_wp2_with fail
    refine (awake_any _).mono ?_; rintro e w9 ⟨rfl, hb⟩
    have HBZ := Lib.hid (HB2.out.trans (hb.mono HB2.out.size))
    clear hb
    go_wp2_with fail
    go_ret
    exact Tells.of HBZ.out
  | true =>
  clear hfa
  obtain ⟨x0, x1⟩ := HX2.out.k2
  go_wp2_with fail
  refine (own_any N A1 z.length c1 _).mono ?_; rintro e w3 ⟨rfl, hb3⟩
  have HB3 := Lib.hid (HB2.out.trans (hb3.mono HB2.out.size))
  have HX3 := Lib.hid (HX2.out.below hb3)
  have HD3 := Lib.hid (HD2.out.below hb3)
  clear hb3 x0 x1 HB2 HX2 HD2
  go_wp2_with fail
  refine (valid_any N _ z _ (H1.out.below HB3.out) HL1.out).mono ?_; rintro e w4 ⟨rfl, hb4⟩
  have HB4 := Lib.hid (HB3.out.trans (hb4.mono HB3.out.size))
  have HXA := Lib.hid (HX3.out.below hb4)
  have HXD := Lib.hid (HD3.out.below hb4)
  have HSA := Lib.hid (H1.out.below HB4.out)
  clear hb4 HB3 HX3 HD3
  cases hzv : zvB N z with
  | false =>
    clear hzv HXA HXD HSA
    go_wp2_with fail
    refine (awake_any _).mono ?_; rintro e w9 ⟨rfl, hb⟩
    have HBZ := Lib.hid (HB4.out.trans (hb.mono HB4.out.size))
    clear hb
    go_wp2_with fail
    go_ret
    exact Tells.of HBZ.out
  | true =>
  obtain ⟨m, rfl, hm, -, hz⟩ := zv_nat hzv
  have HZ := Lib.hid hz
  clear hzv hz
  obtain ⟨x0, x1⟩ := HXA.out.k2
  obtain ⟨d0, d1, d2⟩ := HXD.out.k3
  by_cases q1 : X < -1
  · clear HXA HXD HSA
    go_wp2_with fail
    refine (awake_any _).mono ?_; rintro e w9 ⟨rfl, hb⟩
    have HBZ := Lib.hid (HB4.out.trans (hb.mono HB4.out.size))
    clear hb
    go_wp2_with fail
    go_ret
    exact Tells.of HBZ.out
  have q1' : -1 ≤ X := by omega
  by_cases q2 : Y < -1
  · clear HXA HXD HSA q1
    go_wp2_with fail
    refine (awake_any _).mono ?_; rintro e w9 ⟨rfl, hb⟩
    have HBZ := Lib.hid (HB4.out.trans (hb.mono HB4.out.size))
    clear hb
    go_wp2_with fail
    go_ret
    exact Tells.of HBZ.out
  have q2' : -1 ≤ Y := by omega
  by_cases q3 : (m : Int) ≤ X
  · clear HXA HXD HSA q1 q2
    go_wp2_with fail
    refine (awake_any _).mono ?_; rintro e w9 ⟨rfl, hb⟩
    have HBZ := Lib.hid (HB4.out.trans (hb.mono HB4.out.size))
    clear hb
    go_wp2_with fail
    go_ret
    exact Tells.of HBZ.out
  have q3' : X < (m : Int) := by omega
  by_cases q4 : (m : Int) ≤ Y
  · clear HXA HXD HSA q1 q2 q3
    go_wp2_with fail
    refine (awake_any _).mono ?_; rintro e w9 ⟨rfl, hb⟩
    have HBZ := Lib.hid (HB4.out.trans (hb.mono HB4.out.size))
    clear hb
    go_wp2_with fail
    go_ret
    exact Tells.of HBZ.out
  have q4' : Y < (m : Int) := by omega
  by_cases q5 : C < -40000
  · clear HXA HXD HSA q1 q2 q3 q4
    go_wp2_with fail
    refine (awake_any _).mono ?_; rintro e w9 ⟨rfl, hb⟩
    have HBZ := Lib.hid (HB4.out.trans (hb.mono HB4.out.size))
    clear hb
    go_wp2_with fail
    go_ret
    exact Tells.of HBZ.out
  have q5' : -40000 ≤ C := by omega
  by_cases q6 : 40000 < C
  · have q6' : ¬ C ≤ 40000 := by omega
    clear HXA HXD HSA q1 q2 q3 q4 q5
    go_wp2_with fail
    refine (awake_any _).mono ?_; rintro e w9 ⟨rfl, hb⟩
    have HBZ := Lib.hid (HB4.out.trans (hb.mono HB4.out.size))
    clear hb
    go_wp2_with fail
    go_ret
    exact Tells.of HBZ.out
  have q6' : C ≤ 40000 := by omega
  clear q1 q2 q3 q4 q5 q6
  obtain ⟨i, rfl⟩ : ∃ i : Nat, X = (i : Int) - 1 := ⟨(X + 1).toNat, by omega⟩
  obtain ⟨j, rfl⟩ : ∃ j : Nat, Y = (j : Int) - 1 := ⟨(Y + 1).toNat, by omega⟩
  obtain ⟨l1, l2, e1, e2, hv1, hv2, f1, f2⟩ := imp_facts (i := i) (j := j) (C := C) HZ.out (by omega) (by omega)
  have HE1 := Lib.hid e1
  have HE2 := Lib.hid e2
  have hll : ∀ l : List Int, Zv (m + 1) l → l.length ≤ 9223372036854775807 := fun l hl => by rw [hl.len]; exact Nat.le_trans (Nat.mul_le_mul (by omega : m + 1 ≤ 25) (by omega : m + 1 ≤ 25)) (by decide)
  have HQ1 := Lib.hid (hll _ hv1)
  have HQ2 := Lib.hid (hll _ hv2)
  have F1 := Lib.hid f1
  have F2 := Lib.hid f2
  clear e1 e2 hv1 hv2 f1 f2 hll
  have HAD1 := Lib.hid (show ∀ w6, Below w4.heap.size w4 w6 → Calls Try.prog 14 #[.agg #[.int .i64 (m : Int), .slice A1 z.length c1], .agg #[.int .i64 ((i : Int) - 1), .int .i64 ((j : Int) - 1), .int .i64 C]] w6 (ZP w6 (((m : Int), l1), .int .i64 0)) from
    fun w6 h6 => by rw [← HE1.out]; exact add_any (m : Int) _ _ C _ z w6 (HSA.out.below h6) HL1.out)
  go_wp2_with fail
  clear x0 x1 d0 d1 d2 q1' q2' q3' q4'
  refine region_invE (n := 123) (LwI (w4) 29 (fun zz => match zz with | 0 => .agg #[.int .i64 (m : Int), .slice A1 z.length c1] | 1 => .agg #[.int .i64 (m : Int), .slice A1 z.length c1] | 2 => .agg #[.int .i64 ((i : Int) - 1), .int .i64 ((j : Int) - 1), .int .i64 C] | _ => undef) 3 ((((m : Int), l1), .int .i64 0))) (by kernel_rfl) (by kernel_rfl) rfl ?_ (allOps_spec ?_) ?_
  · intro vs
    exact LwI.start
  · refine ⟨?_, ?_, ?_, ?_, ?_, ?_, ?_, ?_, ?_, ?_, trivial⟩
    · intro L vs ac w6 hB hL hd hI
      have b2 : ac.tmps[2]?.getD undef = .pointer (some ⟨w.heap.size, 0, none⟩) := hB.at 2 (by kernel_rfl)
      have hlk : L 3 = false := (hB.wait 1 3 (hB.wait 0 1 hL (by kernel_rfl)) (by kernel_rfl))
      have hx := hI.bel
      have q0 := (HXA.out.below hx).cell 0
      have q1 := (HXA.out.below hx).cell 1
      exact stepI_run (v := .agg #[.int .i64 (m : Int), .slice A1 z.length c1]) rfl (by simp [execOp, go_sem, Act.eval, b2, q0, q1]) (hI.plain 0 (by decide) hlk (Below.refl _ _))
    · intro L vs ac w6 hB hL hd hI
      have b60 : ac.tmps[60]?.getD undef = .agg #[.int .i64 (m : Int), .slice A1 z.length c1] := (hB.val 0 (hd ⟨0, .data⟩ (by simp) rfl) 60 rfl).trans (hI.v 0 (by decide) (hd ⟨0, .data⟩ (by simp) rfl))
      have hlk : L 3 = false := (hB.wait 1 3 hL (by kernel_rfl))
      have hx := hI.bel
      refine stepI_call (f := 15) (args := #[.agg #[.int .i64 (m : Int), .slice A1 z.length c1]]) rfl (by simp [go_sem, b60]) ?_
      refine (own_any (m : Int) A1 z.length c1 w6).mono ?_
      rintro e w9 ⟨rfl, h9⟩
      exact ⟨_, rfl, hI.plain 1 (by decide) hlk h9⟩
    · intro L vs ac w6 hB hL hd hI
      have b3 : ac.tmps[3]?.getD undef = .pointer (some ⟨w.heap.size + 1, 0, none⟩) := hB.at 3 (by kernel_rfl)
      have hlk : L 3 = false := (hB.wait 2 3 hL (by kernel_rfl))
      have hx := hI.bel
      have q0 := (HXD.out.below hx).cell 0
      have q1 := (HXD.out.below hx).cell 1
      have q2 := (HXD.out.below hx).cell 2
      exact stepI_run (v := .agg #[.int .i64 ((i : Int) - 1), .int .i64 ((j : Int) - 1), .int .i64 C]) rfl (by simp [execOp, go_sem, Act.eval, b3, q0, q1, q2]) (hI.plain 2 (by decide) hlk (Below.refl _ _))
    · intro L vs ac w6 hB hL hd hI
      have b61 : ac.tmps[61]?.getD undef = .agg #[.int .i64 (m : Int), .slice A1 z.length c1] := (hB.val 1 (hd ⟨1, .data⟩ (by simp) rfl) 61 rfl).trans (hI.v 1 (by decide) (hd ⟨1, .data⟩ (by simp) rfl))
      have b62 : ac.tmps[62]?.getD undef = .agg #[.int .i64 ((i : Int) - 1), .int .i64 ((j : Int) - 1), .int .i64 C] := (hB.val 2 (hd ⟨2, .data⟩ (by simp) rfl) 62 rfl).trans (hI.v 2 (by decide) (hd ⟨2, .data⟩ (by simp) rfl))
      have hl1 : L 4 = false := hB.wait 3 4 hL (by kernel_rfl)
      have hl2 : L 5 = false := hB.wait 4 5 hl1 (by kernel_rfl)
      have hl5 : L 8 = false := hB.wait 5 8 hl2 (by kernel_rfl)
      have hx := hI.bel
      refine stepI_call (f := 14) (args := #[.agg #[.int .i64 (m : Int), .slice A1 z.length c1], .agg #[.int .i64 ((i : Int) - 1), .int .i64 ((j : Int) - 1), .int .i64 C]]) rfl (by simp [go_sem, b61, b62]) ?_
      exact (HAD1.out w6 hx).mono fun e w9 h9 => hI.call hl1 hl2 hl5 h9
    · intro L vs ac w6 hB hL hd hI
      have hk : L 3 = true := hd ⟨3, .data⟩ (by simp) rfl
      have b : ac.tmps[63]?.getD undef = vs 3 := hB.val 3 hk 63 rfl
      exact stepI_run (v := vs 3) rfl (by simp [execOp, go_sem, Act.eval, b]) (hI.move hk)
    · intro L vs ac w6 hB hL hd hI
      have hm := hI.m (hd ⟨4, .data⟩ (by simp) rfl)
      obtain ⟨A9, c9, ek, -⟩ := hI.c hm.1
      have b : ac.tmps[59]?.getD undef = _ := (hB.val 4 (hd ⟨4, .data⟩ (by simp) rfl) 59 rfl).trans (hm.2.trans ek)
      exact stepI_run (v := fstV (vs 3)) rfl (by simp [execOp, go_sem, Act.eval, b, ek, fstV]) (hI.ext0 hm.1)
    · intro L vs ac w6 hB hL hd hI
      have hm := hI.m (hd ⟨4, .data⟩ (by simp) rfl)
      obtain ⟨A9, c9, ek, -⟩ := hI.c hm.1
      have b : ac.tmps[59]?.getD undef = _ := (hB.val 4 (hd ⟨4, .data⟩ (by simp) rfl) 59 rfl).trans (hm.2.trans ek)
      exact stepI_run (v := ((((m : Int), l1), .int .i64 0) : (Int × List Int) × Value).2) rfl (by simp [execOp, go_sem, Act.eval, b]) hI.ext1
    · intro L vs ac w6 hB hL hd hI
      have hl5 : L 8 = false := hB.wait 7 8 hL (by kernel_rfl)
      exact stepI_run (v := .pointer (some ⟨w6.heap.size, 0, none⟩)) (w' := w6.alloc (.cells #[.int .i64 0, .slice none 0 0] 29)) rfl (exec_alloc 29 rfl info_Zn) (hI.alc hl5)
    · intro L vs ac w6 hB hL hd hI
      have h4 : L 7 = true := hd ⟨7, .data⟩ (by simp) rfl
      have h2 : L 5 = true := hd ⟨5, .data⟩ (by simp) rfl
      obtain ⟨hk, e2⟩ := hI.e0 h2
      obtain ⟨A9, c9, ek, -⟩ := hI.c hk
      obtain ⟨nb, hv, -, hx, -⟩ := hI.al h4
      rw [hL, if_neg Bool.false_ne_true] at hx
      have bp : ac.tmps[5]?.getD undef = .pointer (some ⟨nb, 0, none⟩) := (hB.val 7 h4 5 rfl).trans hv
      have bq : ac.tmps[64]?.getD undef = .agg (cellsV (fstV (vs 3))) := (hB.val 5 h2 64 rfl).trans (e2.trans (by rw [ek]; rfl))
      exact stepI_store_row rfl 29 5 64 rfl nb _ bp bq _ hx (by rw [ek]; kernel_rfl) (by rw [ek]; rfl) (by rw [ek]; simp [cellsV, fstV, Value.oneCell']) (hI.sto h4 hk hv)
    · intro L vs ac w6 hB hL hd hI
      have h3 : L 6 = true := hd ⟨6, .data⟩ (by simp) rfl
      have b : ac.tmps[65]?.getD undef = ((((m : Int), l1), .int .i64 0) : (Int × List Int) × Value).2 := (hB.val 6 h3 65 rfl).trans (hI.e1 h3)
      exact stepI_run (v := ((((m : Int), l1), .int .i64 0) : (Int × List Int) × Value).2) rfl (by simp [execOp, go_sem, Act.eval, b]) hI.asg
  · intro L vs w5 hall hI
    obtain ⟨nb5, A5, c5, e1, e2, hnb5, hx5, ho5, hne5, hb5⟩ := hI.fin fun i hi => hall i hi
    clear hI hall
    simp only [putAll, Act.put, List.setIfInBounds_toArray, List.set_cons_zero, List.set_cons_succ, Nat.zero_add, Nat.reduceAdd, e1, e2]
    clear e1 e2
    dsimp only at hx5 ho5 hne5
    have HB5 := Lib.hid (HB4.out.trans (hb5.mono HB4.out.size))
    have HXA5 := Lib.hid (HXA.out.below hb5)
    have HXD5 := Lib.hid (HXD.out.below hb5)
    have HSA5 := Lib.hid (HSA.out.below hb5)
    have HN5 := Lib.hid hx5
    have HS5 := Lib.hid (Own.sl ho5)
    clear hx5 ho5 hne5 hb5 hnb5 HB4 HXA HXD HSA HAD1
    have HWN := Lib.hid (show IntKind.i64.wrap (-C) = -C from by rw [IntKind.wrap_i64]; omega)
    have HWM := Lib.hid (show IntKind.i64.wrap (-C - 1) = -C - 1 from by rw [IntKind.wrap_i64]; omega)
    have HAD2 := Lib.hid (show ∀ w6, Below w5.heap.size w5 w6 → Calls Try.prog 14 #[.agg #[.int .i64 (m : Int), .slice A1 z.length c1], .agg #[.int .i64 ((j : Int) - 1), .int .i64 ((i : Int) - 1), .int .i64 (-C - 1)]] w6 (ZP w6 (((m : Int), l2), .int .i64 0)) from
      fun w6 h6 => by rw [← HE2.out]; exact add_any (m : Int) _ _ (-C - 1) _ z w6 (HSA5.out.below h6) HL1.out)
    go_wp2_with fail
    refine region_invE (n := 123) (LwI (w5) 29 (fun zz => match zz with | 0 => .agg #[.int .i64 (m : Int), .slice A1 z.length c1] | 1 => .agg #[.int .i64 (m : Int), .slice A1 z.length c1] | 2 => .pointer (some ⟨w.heap.size + 1, 1, none⟩) | 3 => .int .i64 ((j : Int) - 1) | 4 => .pointer (some ⟨w.heap.size + 1, 0, none⟩) | 5 => .int .i64 ((i : Int) - 1) | 6 => .pointer (some ⟨w.heap.size + 1, 2, none⟩) | 7 => .int .i64 C | 8 => .int .i64 (-C) | 9 => .int .i64 (-C - 1) | 10 => .agg #[.int .i64 ((j : Int) - 1), .int .i64 ((i : Int) - 1), .int .i64 (-C - 1)] | _ => undef) 11 ((((m : Int), l2), .int .i64 0))) (by kernel_rfl) (by kernel_rfl) rfl ?_ (allOps_spec ?_) ?_
    · intro vs
      exact LwI.start
    · refine ⟨?_, ?_, ?_, ?_, ?_, ?_, ?_, ?_, ?_, ?_, ?_, ?_, ?_, ?_, ?_, ?_, ?_, ?_, trivial⟩
      · intro L vs ac w6 hB hL hd hI
        have b2 : ac.tmps[2]?.getD undef = .pointer (some ⟨w.heap.size, 0, none⟩) := hB.at 2 (by kernel_rfl)
        have hlk : L 11 = false := (hB.wait 1 11 (hB.wait 0 1 hL (by kernel_rfl)) (by kernel_rfl))
        have hx := hI.bel
        have q0 := (HXA5.out.below hx).cell 0
        have q1 := (HXA5.out.below hx).cell 1
        exact stepI_run (v := .agg #[.int .i64 (m : Int), .slice A1 z.length c1]) rfl (by simp [execOp, go_sem, Act.eval, b2, q0, q1]) (hI.plain 0 (by decide) hlk (Below.refl _ _))
      · intro L vs ac w6 hB hL hd hI
        have b67 : ac.tmps[67]?.getD undef = .agg #[.int .i64 (m : Int), .slice A1 z.length c1] := (hB.val 0 (hd ⟨0, .data⟩ (by simp) rfl) 67 rfl).trans (hI.v 0 (by decide) (hd ⟨0, .data⟩ (by simp) rfl))
        have hlk : L 11 = false := (hB.wait 1 11 hL (by kernel_rfl))
        have hx := hI.bel
        refine stepI_call (f := 15) (args := #[.agg #[.int .i64 (m : Int), .slice A1 z.length c1]]) rfl (by simp [go_sem, b67]) ?_
        refine (own_any (m : Int) A1 z.length c1 w6).mono ?_
        rintro e w9 ⟨rfl, h9⟩
        exact ⟨_, rfl, hI.plain 1 (by decide) hlk h9⟩
      · intro L vs ac w6 hB hL hd hI
        have b3 : ac.tmps[3]?.getD undef = .pointer (some ⟨w.heap.size + 1, 0, none⟩) := hB.at 3 (by kernel_rfl)
        have hlk : L 11 = false := (hB.wait 10 11 (hB.wait 3 10 (hB.wait 2 3 hL (by kernel_rfl)) (by kernel_rfl)) (by kernel_rfl))
        have hx := hI.bel
        exact stepI_run (v := .pointer (some ⟨w.heap.size + 1, 1, none⟩)) rfl (by simp [execOp, go_sem, Act.eval, b3]) (hI.plain 2 (by decide) hlk (Below.refl _ _))
      · intro L vs ac w6 hB hL hd hI
        have b69 : ac.tmps[69]?.getD undef = .pointer (some ⟨w.heap.size + 1, 1, none⟩) := (hB.val 2 (hd ⟨2, .data⟩ (by simp) rfl) 69 rfl).trans (hI.v 2 (by decide) (hd ⟨2, .data⟩ (by simp) rfl))
        have hlk : L 11 = false := (hB.wait 10 11 (hB.wait 3 10 hL (by kernel_rfl)) (by kernel_rfl))
        have hx := hI.bel
        have q1 := (HXD5.out.below hx).cell 1
        exact stepI_run (v := .int .i64 ((j : Int) - 1)) rfl (by simp [execOp, go_sem, Act.eval, b69, q1]) (hI.plain 3 (by decide) hlk (Below.refl _ _))
      · intro L vs ac w6 hB hL hd hI
        have b3 : ac.tmps[3]?.getD undef = .pointer (some ⟨w.heap.size + 1, 0, none⟩) := hB.at 3 (by kernel_rfl)
        have hlk : L 11 = false := (hB.wait 10 11 (hB.wait 5 10 (hB.wait 4 5 hL (by kernel_rfl)) (by kernel_rfl)) (by kernel_rfl))
        have hx := hI.bel
        exact stepI_run (v := .pointer (some ⟨w.heap.size + 1, 0, none⟩)) rfl (by simp [execOp, go_sem, Act.eval, b3]) (hI.plain 4 (by decide) hlk (Below.refl _ _))
      · intro L vs ac w6 hB hL hd hI
        have b71 : ac.tmps[71]?.getD undef = .pointer (some ⟨w.heap.size + 1, 0, none⟩) := (hB.val 4 (hd ⟨4, .data⟩ (by simp) rfl) 71 rfl).trans (hI.v 4 (by decide) (hd ⟨4, .data⟩ (by simp) rfl))
        have hlk : L 11 = false := (hB.wait 10 11 (hB.wait 5 10 hL (by kernel_rfl)) (by kernel_rfl))
        have hx := hI.bel
        have q0 := (HXD5.out.below hx).cell 0
        exact stepI_run (v := .int .i64 ((i : Int) - 1)) rfl (by simp [execOp, go_sem, Act.eval, b71, q0]) (hI.plain 5 (by decide) hlk (Below.refl _ _))
      · intro L vs ac w6 hB hL hd hI
        have b3 : ac.tmps[3]?.getD undef = .pointer (some ⟨w.heap.size + 1, 0, none⟩) := hB.at 3 (by kernel_rfl)
        have hlk : L 11 = false := (hB.wait 10 11 (hB.wait 9 10 (hB.wait 8 9 (hB.wait 7 8 (hB.wait 6 7 hL (by kernel_rfl)) (by kernel_rfl)) (by kernel_rfl)) (by kernel_rfl)) (by kernel_rfl))
        have hx := hI.bel
        exact stepI_run (v := .pointer (some ⟨w.heap.size + 1, 2, none⟩)) rfl (by simp [execOp, go_sem, Act.eval, b3]) (hI.plain 6 (by decide) hlk (Below.refl _ _))
      · intro L vs ac w6 hB hL hd hI
        have b73 : ac.tmps[73]?.getD undef = .pointer (some ⟨w.heap.size + 1, 2, none⟩) := (hB.val 6 (hd ⟨6, .data⟩ (by simp) rfl) 73 rfl).trans (hI.v 6 (by decide) (hd ⟨6, .data⟩ (by simp) rfl))
        have hlk : L 11 = false := (hB.wait 10 11 (hB.wait 9 10 (hB.wait 8 9 (hB.wait 7 8 hL (by kernel_rfl)) (by kernel_rfl)) (by kernel_rfl)) (by kernel_rfl))
        have hx := hI.bel
        have q2 := (HXD5.out.below hx).cell 2
        exact stepI_run (v := .int .i64 C) rfl (by simp [execOp, go_sem, Act.eval, b73, q2]) (hI.plain 7 (by decide) hlk (Below.refl _ _))
      · intro L vs ac w6 hB hL hd hI
        have b74 : ac.tmps[74]?.getD undef = .int .i64 C := (hB.val 7 (hd ⟨7, .data⟩ (by simp) rfl) 74 rfl).trans (hI.v 7 (by decide) (hd ⟨7, .data⟩ (by simp) rfl))
        have hlk : L 11 = false := (hB.wait 10 11 (hB.wait 9 10 (hB.wait 8 9 hL (by kernel_rfl)) (by kernel_rfl)) (by kernel_rfl))
        have hx := hI.bel
        exact stepI_run (v := .int .i64 (-C)) rfl (by simp [execOp, go_sem, Act.eval, b74, HWN.out]) (hI.plain 8 (by decide) hlk (Below.refl _ _))
      · intro L vs ac w6 hB hL hd hI
        have b75 : ac.tmps[75]?.getD undef = .int .i64 (-C) := (hB.val 8 (hd ⟨8, .data⟩ (by simp) rfl) 75 rfl).trans (hI.v 8 (by decide) (hd ⟨8, .data⟩ (by simp) rfl))
        have hlk : L 11 = false := (hB.wait 10 11 (hB.wait 9 10 hL (by kernel_rfl)) (by kernel_rfl))
        have hx := hI.bel
        exact stepI_run (v := .int .i64 (-C - 1)) rfl (by simp [execOp, go_sem, Act.eval, b75, HWM.out]) (hI.plain 9 (by decide) hlk (Below.refl _ _))
      · intro L vs ac w6 hB hL hd hI
        have b70 : ac.tmps[70]?.getD undef = .int .i64 ((j : Int) - 1) := (hB.val 3 (hd ⟨3, .data⟩ (by simp) rfl) 70 rfl).trans (hI.v 3 (by decide) (hd ⟨3, .data⟩ (by simp) rfl))
        have b72 : ac.tmps[72]?.getD undef = .int .i64 ((i : Int) - 1) := (hB.val 5 (hd ⟨5, .data⟩ (by simp) rfl) 72 rfl).trans (hI.v 5 (by decide) (hd ⟨5, .data⟩ (by simp) rfl))
        have b76 : ac.tmps[76]?.getD undef = .int .i64 (-C - 1) := (hB.val 9 (hd ⟨9, .data⟩ (by simp) rfl) 76 rfl).trans (hI.v 9 (by decide) (hd ⟨9, .data⟩ (by simp) rfl))
        have hlk : L 11 = false := (hB.wait 10 11 hL (by kernel_rfl))
        have hx := hI.bel
        exact stepI_run (v := .agg #[.int .i64 ((j : Int) - 1), .int .i64 ((i : Int) - 1), .int .i64 (-C - 1)]) rfl (by simp [execOp, go_sem, Act.eval, b70, b72, b76]) (hI.plain 10 (by decide) hlk (Below.refl _ _))
      · intro L vs ac w6 hB hL hd hI
        have b68 : ac.tmps[68]?.getD undef = .agg #[.int .i64 (m : Int), .slice A1 z.length c1] := (hB.val 1 (hd ⟨1, .data⟩ (by simp) rfl) 68 rfl).trans (hI.v 1 (by decide) (hd ⟨1, .data⟩ (by simp) rfl))
        have b77 : ac.tmps[77]?.getD undef = .agg #[.int .i64 ((j : Int) - 1), .int .i64 ((i : Int) - 1), .int .i64 (-C - 1)] := (hB.val 10 (hd ⟨10, .data⟩ (by simp) rfl) 77 rfl).trans (hI.v 10 (by decide) (hd ⟨10, .data⟩ (by simp) rfl))
        have hl1 : L 12 = false := hB.wait 11 12 hL (by kernel_rfl)
        have hl2 : L 13 = false := hB.wait 12 13 hl1 (by kernel_rfl)
        have hl5 : L 16 = false := hB.wait 13 16 hl2 (by kernel_rfl)
        have hx := hI.bel
        refine stepI_call (f := 14) (args := #[.agg #[.int .i64 (m : Int), .slice A1 z.length c1], .agg #[.int .i64 ((j : Int) - 1), .int .i64 ((i : Int) - 1), .int .i64 (-C - 1)]]) rfl (by simp [go_sem, b68, b77]) ?_
        exact (HAD2.out w6 hx).mono fun e w9 h9 => hI.call hl1 hl2 hl5 h9
      · intro L vs ac w6 hB hL hd hI
        have hk : L 11 = true := hd ⟨11, .data⟩ (by simp) rfl
        have b : ac.tmps[78]?.getD undef = vs 11 := hB.val 11 hk 78 rfl
        exact stepI_run (v := vs 11) rfl (by simp [execOp, go_sem, Act.eval, b]) (hI.move hk)
      · intro L vs ac w6 hB hL hd hI
        have hm := hI.m (hd ⟨12, .data⟩ (by simp) rfl)
        obtain ⟨A9, c9, ek, -⟩ := hI.c hm.1
        have b : ac.tmps[66]?.getD undef = _ := (hB.val 12 (hd ⟨12, .data⟩ (by simp) rfl) 66 rfl).trans (hm.2.trans ek)
        exact stepI_run (v := fstV (vs 11)) rfl (by simp [execOp, go_sem, Act.eval, b, ek, fstV]) (hI.ext0 hm.1)
      · intro L vs ac w6 hB hL hd hI
        have hm := hI.m (hd ⟨12, .data⟩ (by simp) rfl)
        obtain ⟨A9, c9, ek, -⟩ := hI.c hm.1
        have b : ac.tmps[66]?.getD undef = _ := (hB.val 12 (hd ⟨12, .data⟩ (by simp) rfl) 66 rfl).trans (hm.2.trans ek)
        exact stepI_run (v := ((((m : Int), l2), .int .i64 0) : (Int × List Int) × Value).2) rfl (by simp [execOp, go_sem, Act.eval, b]) hI.ext1
      · intro L vs ac w6 hB hL hd hI
        have hl5 : L 16 = false := hB.wait 15 16 hL (by kernel_rfl)
        exact stepI_run (v := .pointer (some ⟨w6.heap.size, 0, none⟩)) (w' := w6.alloc (.cells #[.int .i64 0, .slice none 0 0] 29)) rfl (exec_alloc 29 rfl info_Zn) (hI.alc hl5)
      · intro L vs ac w6 hB hL hd hI
        have h4 : L 15 = true := hd ⟨15, .data⟩ (by simp) rfl
        have h2 : L 13 = true := hd ⟨13, .data⟩ (by simp) rfl
        obtain ⟨hk, e2⟩ := hI.e0 h2
        obtain ⟨A9, c9, ek, -⟩ := hI.c hk
        obtain ⟨nb, hv, -, hx, -⟩ := hI.al h4
        rw [hL, if_neg Bool.false_ne_true] at hx
        have bp : ac.tmps[7]?.getD undef = .pointer (some ⟨nb, 0, none⟩) := (hB.val 15 h4 7 rfl).trans hv
        have bq : ac.tmps[79]?.getD undef = .agg (cellsV (fstV (vs 11))) := (hB.val 13 h2 79 rfl).trans (e2.trans (by rw [ek]; rfl))
        exact stepI_store_row rfl 29 7 79 rfl nb _ bp bq _ hx (by rw [ek]; kernel_rfl) (by rw [ek]; rfl) (by rw [ek]; simp [cellsV, fstV, Value.oneCell']) (hI.sto h4 hk hv)
      · intro L vs ac w6 hB hL hd hI
        have h3 : L 14 = true := hd ⟨14, .data⟩ (by simp) rfl
        have b : ac.tmps[80]?.getD undef = ((((m : Int), l2), .int .i64 0) : (Int × List Int) × Value).2 := (hB.val 14 h3 80 rfl).trans (hI.e1 h3)
        exact stepI_run (v := ((((m : Int), l2), .int .i64 0) : (Int × List Int) × Value).2) rfl (by simp [execOp, go_sem, Act.eval, b]) hI.asg
    · intro L vs w7 hall hI
      obtain ⟨nb7, A7, c7, e1, e2, hnb7, hx7, ho7, hne7, hb7⟩ := hI.fin fun i hi => hall i hi
      clear hI hall
      simp only [putAll, Act.put, List.setIfInBounds_toArray, List.set_cons_zero, List.set_cons_succ, Nat.zero_add, Nat.reduceAdd, e1, e2]
      clear e1 e2
      dsimp only at hx7 ho7 hne7
      have HB7 := Lib.hid (HB5.out.trans (hb7.mono HB5.out.size))
      have HXA7 := Lib.hid (HXA5.out.below hb7)
      have HXD7 := Lib.hid (HXD5.out.below hb7)
      have HSA7 := Lib.hid (HSA5.out.below hb7)
      have HN7 := Lib.hid (HN5.out.below hb7)
      have HS7 := Lib.hid (HS5.out.below hb7)
      have HM7 := Lib.hid hx7
      have HT7 := Lib.hid (Own.sl ho7)
      clear hx7 ho7 hne7 hb7 hnb7 HB5 HXA5 HXD5 HSA5 HN5 HS5 HAD2 HWN HWM
      obtain ⟨m0, m1⟩ := HM7.out.k2
      go_wp2_with fail
      refine (model_any (m : Int) _ l2 _ HT7.out HQ2.out).mono ?_; rintro e w8 ⟨v8, rfl, hs8, hb8⟩
      obtain ⟨mv, hmv⟩ : ∃ mv, mv = modR (m : Int) l2 := ⟨_, rfl⟩
      rw [← hmv] at hs8 ⊢ F1 F2
      obtain ⟨ml, mb⟩ := mv
      dsimp only at hs8 ⊢ F1 F2
      obtain ⟨A8, c8, rfl⟩ := hs8.shape
      have HML := Lib.hid (show ml.length ≤ 9223372036854775807 from by have := modR_len (N := (m : Int)) (b := l2); rw [← hmv] at this; dsimp only at this; omega)
      have HV8 := Lib.hid hs8
      have HB8 := Lib.hid (HB7.out.trans (hb8.mono HB7.out.size))
      have HXA8 := Lib.hid (HXA7.out.below hb8)
      have HXD8 := Lib.hid (HXD7.out.below hb8)
      have HSA8 := Lib.hid (HSA7.out.below hb8)
      have HN8 := Lib.hid (HN7.out.below hb8)
      have HS8 := Lib.hid (HS7.out.below hb8)
      clear hs8 hb8 hmv m0 m1 HB7 HXA7 HXD7 HSA7 HN7 HS7 HM7 HT7
      obtain ⟨I, hI⟩ : ∃ I, I = impR (m : Int) z ((i : Int) - 1) ((j : Int) - 1) C := ⟨_, rfl⟩
      rw [← hI] at F1 F2
      have HIMP := Lib.hid (show ∀ w6, Below w8.heap.size w8 w6 → Calls Try.prog 23 #[.agg #[.int .i64 (m : Int), .slice A1 z.length c1], .agg #[.int .i64 ((i : Int) - 1), .int .i64 ((j : Int) - 1), .int .i64 C]] w6 (Tells w6 (.bool I)) from
        fun w6 h6 => by rw [hI]; exact implies_any (m : Int) _ _ C _ z w6 (HSA8.out.below h6) HL1.out)
      clear hI
      go_wp2_with fail
      refine region_phi (n := 123) (Wd [(false, .agg #[.int .i64 (m : Int), .slice A1 z.length c1]),
          (false, .agg #[.int .i64 (m : Int), .slice A1 z.length c1]),
          (false, .agg #[.int .i64 ((i : Int) - 1), .int .i64 ((j : Int) - 1), .int .i64 C]),
          (false, .bool I)]) (by kernel_rfl) (by kernel_rfl) rfl (fun _ _ _ _ h _ => h) (allOps_spec ?_) ?_
      · refine ⟨?_, ?_, ?_, ?_, trivial⟩
        · intro ac w' hb hp
          have b2 : ac.tmps[2]?.getD undef = .pointer (some ⟨w.heap.size, 0, none⟩) := hb.at 2 (by kernel_rfl)
          have q0 := (HXA8.out.below hb.ext).cell 0
          have q1 := (HXA8.out.below hb.ext).cell 1
          exact wd_run rfl rfl (by simp [execOp, go_sem, Act.eval, b2, q0, q1])
        · intro ac w' hb hp
          refine step_call (f := 15) (args := #[.agg #[.int .i64 (m : Int), .slice A1 z.length c1]]) rfl (by simp [go_sem, wd_get (hp ⟨0, .data⟩ (by simp) rfl _ rfl) rfl rfl]) ?_
          exact (own_any (m : Int) A1 z.length c1 w').mono fun e w9 h9 => ⟨_, h9.1, h9.2, wd_mk rfl fun _ => rfl⟩
        · intro ac w' hb hp
          have b3 : ac.tmps[3]?.getD undef = .pointer (some ⟨w.heap.size + 1, 0, none⟩) := hb.at 3 (by kernel_rfl)
          have q0 := (HXD8.out.below hb.ext).cell 0
          have q1 := (HXD8.out.below hb.ext).cell 1
          have q2 := (HXD8.out.below hb.ext).cell 2
          exact wd_run rfl rfl (by simp [execOp, go_sem, Act.eval, b3, q0, q1, q2])
        · intro ac w' hb hp
          refine step_call (f := 23) (args := #[.agg #[.int .i64 (m : Int), .slice A1 z.length c1], .agg #[.int .i64 ((i : Int) - 1), .int .i64 ((j : Int) - 1), .int .i64 C]]) rfl (by simp [go_sem, wd_get (hp ⟨1, .data⟩ (by simp) rfl _ rfl) rfl rfl, wd_get (hp ⟨2, .data⟩ (by simp) rfl _ rfl) rfl rfl]) ?_
          exact (HIMP.out w' hb.ext).mono fun e w9 h9 => ⟨_, h9.1, h9.2, wd_mk rfl fun _ => rfl⟩
      · intro vz w9 hext hall
        have HEXT := Lib.hid hext
        have e3 : vz 3 = .bool I := hall 3 (by decide) rfl
        clear hext hall
        simp only [putAll, Act.put, List.setIfInBounds_toArray, List.set_cons_zero, List.set_cons_succ, Nat.zero_add, Nat.reduceAdd, e3]
        clear e3
        have HB9 := Lib.hid (HB8.out.trans (HEXT.out.mono HB8.out.size))
        have HXA9 := Lib.hid (HXA8.out.below HEXT.out)
        have HSA9 := Lib.hid (HSA8.out.below HEXT.out)
        have HN9 := Lib.hid (HN8.out.below HEXT.out)
        have HS9 := Lib.hid (HS8.out.below HEXT.out)
        have HV9 := Lib.hid (HV8.out.below HEXT.out)
        clear HEXT HB8 HXA8 HXD8 HSA8 HN8 HS8 HV8 HIMP
        cases I with
        | true =>
          obtain ⟨g1, g2, g3⟩ := F1.out rfl
          subst g1
          have HG2 := Lib.hid g2
          have HG3 := Lib.hid g3
          clear g2 g3 F1 F2
          have HU1 := Lib.hid (show ∀ w6, Below w9.heap.size w9 w6 → Calls Try.prog 35 #[.agg #[.int .i64 (m : Int), .slice A1 z.length c1], .agg #[.int .i64 (m : Int), .slice A5 l1.length c5]] w6 (Tells w6 (.bool true)) from
            fun w6 h6 => by rw [← HG2.out]; exact sub_any (m : Int) (m : Int) _ _ z l1 w6 (HSA9.out.below h6) HL1.out (HS9.out.below h6) HQ1.out)
          have HU2 := Lib.hid (show ∀ w6, Below w9.heap.size w9 w6 → Calls Try.prog 35 #[.agg #[.int .i64 (m : Int), .slice A5 l1.length c5], .agg #[.int .i64 (m : Int), .slice A1 z.length c1]] w6 (Tells w6 (.bool true)) from
            fun w6 h6 => by rw [← HG3.out]; exact sub_any (m : Int) (m : Int) _ _ l1 z w6 (HS9.out.below h6) HQ1.out (HSA9.out.below h6) HL1.out)
          go_wp2_with fail
          refine region_phi (n := 123) (Wd [(false, .bool false),
              (false, .bool true),
              (false, .bool true),
              (false, .agg #[.int .i64 (m : Int), .slice A1 z.length c1]),
              (false, .agg #[.int .i64 (m : Int), .slice A1 z.length c1]),
              (false, .agg #[.int .i64 (m : Int), .slice A5 l1.length c5]),
              (false, .bool true),
              (false, .bool true),
              (false, .bool true),
              (false, .agg #[.int .i64 (m : Int), .slice A5 l1.length c5]),
              (false, .agg #[.int .i64 (m : Int), .slice A1 z.length c1]),
              (false, .agg #[.int .i64 (m : Int), .slice A1 z.length c1]),
              (false, .bool true),
              (false, .bool true),
              (false, .bool true)]) (by kernel_rfl) (by kernel_rfl) rfl (fun _ _ _ _ h _ => h) (allOps_spec ?_) ?_
          · refine ⟨?_, ?_, ?_, ?_, ?_, ?_, ?_, ?_, ?_, ?_, ?_, ?_, ?_, ?_, ?_, trivial⟩
            · intro ac w' hb hp
              have b10 : ac.tmps[10]?.getD undef = .bool false := hb.at 10 (by kernel_rfl)
              exact wd_run rfl rfl (by simp [execOp, go_sem, Act.eval, b10])
            · exact fun ac w' hb hp => wd_run rfl rfl (by simp [execOp, go_sem, Act.eval, wd_get (hp ⟨0, .data⟩ (by simp) rfl _ rfl) rfl rfl])
            · exact fun ac w' hb hp => wd_run rfl rfl (by simp [execOp, go_sem, Act.eval, wd_get (hp ⟨1, .data⟩ (by simp) rfl _ rfl) rfl rfl])
            · intro ac w' hb hp
              have gg := wd_get (hp ⟨2, .guard⟩ (by simp) rfl _ rfl) rfl rfl
              have b2 : ac.tmps[2]?.getD undef = .pointer (some ⟨w.heap.size, 0, none⟩) := hb.at 2 (by kernel_rfl)
              have q0 := (HXA9.out.below hb.ext).cell 0
              have q1 := (HXA9.out.below hb.ext).cell 1
              exact wd_run rfl (by simp [Region.wanted, yielded, bool_at gg]) (by simp [execOp, go_sem, Act.eval, b2, q0, q1])
            · intro ac w' hb hp
              have gg := wd_get (hp ⟨2, .guard⟩ (by simp) rfl _ rfl) rfl rfl
              refine step_call (f := 15) (args := #[.agg #[.int .i64 (m : Int), .slice A1 z.length c1]]) (by simp [Region.wanted, yielded, bool_at gg]) (by simp [go_sem, wd_get (hp ⟨3, .data⟩ (by simp) rfl _ rfl) rfl rfl]) ?_
              exact (own_any (m : Int) A1 z.length c1 w').mono fun e w9 h9 => ⟨_, h9.1, h9.2, wd_mk rfl fun _ => rfl⟩
            · intro ac w' hb hp
              have gg := wd_get (hp ⟨2, .guard⟩ (by simp) rfl _ rfl) rfl rfl
              have b5 : ac.tmps[5]?.getD undef = .pointer (some ⟨nb5, 0, none⟩) := hb.at 5 (by kernel_rfl)
              have q0 := (HN9.out.below hb.ext).cell 0
              have q1 := (HN9.out.below hb.ext).cell 1
              exact wd_run rfl (by simp [Region.wanted, yielded, bool_at gg]) (by simp [execOp, go_sem, Act.eval, b5, q0, q1])
            · intro ac w' hb hp
              have gg := wd_get (hp ⟨2, .guard⟩ (by simp) rfl _ rfl) rfl rfl
              refine step_call (f := 35) (args := #[.agg #[.int .i64 (m : Int), .slice A1 z.length c1], .agg #[.int .i64 (m : Int), .slice A5 l1.length c5]]) (by simp [Region.wanted, yielded, bool_at gg]) (by simp [go_sem, wd_get (hp ⟨4, .data⟩ (by simp) rfl _ rfl) rfl rfl, wd_get (hp ⟨5, .data⟩ (by simp) rfl _ rfl) rfl rfl]) ?_
              exact (HU1.out w' hb.ext).mono fun e w9 h9 => ⟨_, h9.1, h9.2, wd_mk rfl fun _ => rfl⟩
            · exact fun ac w' hb hp => wd_run rfl rfl (by simp [execOp, go_sem, Act.eval, wd_get (hp ⟨2, .data⟩ (by simp) rfl _ rfl) rfl rfl, wd_get (hp ⟨6, .data⟩ (by simp) rfl _ rfl) rfl rfl])
            · exact fun ac w' hb hp => wd_run rfl rfl (by simp [execOp, go_sem, Act.eval, wd_get (hp ⟨7, .data⟩ (by simp) rfl _ rfl) rfl rfl])
            · intro ac w' hb hp
              have gg := wd_get (hp ⟨8, .guard⟩ (by simp) rfl _ rfl) rfl rfl
              have b5 : ac.tmps[5]?.getD undef = .pointer (some ⟨nb5, 0, none⟩) := hb.at 5 (by kernel_rfl)
              have q0 := (HN9.out.below hb.ext).cell 0
              have q1 := (HN9.out.below hb.ext).cell 1
              exact wd_run rfl (by simp [Region.wanted, yielded, bool_at gg]) (by simp [execOp, go_sem, Act.eval, b5, q0, q1])
            · intro ac w' hb hp
              have gg := wd_get (hp ⟨8, .guard⟩ (by simp) rfl _ rfl) rfl rfl
              have b2 : ac.tmps[2]?.getD undef = .pointer (some ⟨w.heap.size, 0, none⟩) := hb.at 2 (by kernel_rfl)
              have q0 := (HXA9.out.below hb.ext).cell 0
              have q1 := (HXA9.out.below hb.ext).cell 1
              exact wd_run rfl (by simp [Region.wanted, yielded, bool_at gg]) (by simp [execOp, go_sem, Act.eval, b2, q0, q1])
            · intro ac w' hb hp
              have gg := wd_get (hp ⟨8, .guard⟩ (by simp) rfl _ rfl) rfl rfl
              refine step_call (f := 15) (args := #[.agg #[.int .i64 (m : Int), .slice A1 z.length c1]]) (by simp [Region.wanted, yielded, bool_at gg]) (by simp [go_sem, wd_get (hp ⟨10, .data⟩ (by simp) rfl _ rfl) rfl rfl]) ?_
              exact (own_any (m : Int) A1 z.length c1 w').mono fun e w9 h9 => ⟨_, h9.1, h9.2, wd_mk rfl fun _ => rfl⟩
            · intro ac w' hb hp
              have gg := wd_get (hp ⟨8, .guard⟩ (by simp) rfl _ rfl) rfl rfl
              refine step_call (f := 35) (args := #[.agg #[.int .i64 (m : Int), .slice A5 l1.length c5], .agg #[.int .i64 (m : Int), .slice A1 z.length c1]]) (by simp [Region.wanted, yielded, bool_at gg]) (by simp [go_sem, wd_get (hp ⟨9, .data⟩ (by simp) rfl _ rfl) rfl rfl, wd_get (hp ⟨11, .data⟩ (by simp) rfl _ rfl) rfl rfl]) ?_
              exact (HU2.out w' hb.ext).mono fun e w9 h9 => ⟨_, h9.1, h9.2, wd_mk rfl fun _ => rfl⟩
            · exact fun ac w' hb hp => wd_run rfl rfl (by simp [execOp, go_sem, Act.eval, wd_get (hp ⟨8, .data⟩ (by simp) rfl _ rfl) rfl rfl, wd_get (hp ⟨12, .data⟩ (by simp) rfl _ rfl) rfl rfl])
            · exact fun ac w' hb hp => wd_run rfl rfl (by simp [execOp, go_sem, Act.eval, wd_get (hp ⟨13, .data⟩ (by simp) rfl _ rfl) rfl rfl])
          · intro vz w10 hext hall
            have HEXT := Lib.hid hext
            have e14 : vz 14 = .bool true := hall 14 (by decide) rfl
            clear hext hall
            simp only [putAll, Act.put, List.setIfInBounds_toArray, List.set_cons_zero, List.set_cons_succ, Nat.zero_add, Nat.reduceAdd, e14]
            clear e14
            have HB10 := Lib.hid (HB9.out.trans (HEXT.out.mono HB9.out.size))
            clear HEXT
            go_wp2_with fail
            go_ret
            exact Tells.of HB10.out
        | false =>
          obtain ⟨g1, g2, g3⟩ := F2.out rfl
          subst g1
          have HG2 := Lib.hid g2
          have HG3 := Lib.hid g3
          clear g2 g3 F1 F2
          obtain ⟨x0, x1⟩ := HXA9.out.k2
          go_wp2_with fail
          refine (own_any (m : Int) A1 z.length c1 _).mono ?_; rintro e w10 ⟨rfl, hb10⟩
          have HB10 := Lib.hid (HB9.out.trans (hb10.mono HB9.out.size))
          have HSA10 := Lib.hid (HSA9.out.below hb10)
          have HN10 := Lib.hid (HN9.out.below hb10)
          have HS10 := Lib.hid (HS9.out.below hb10)
          have HV10 := Lib.hid (HV9.out.below hb10)
          clear hb10 x0 x1 HB9 HXA9 HSA9 HN9 HS9 HV9
          go_wp2_with fail
          refine (holds_any (m : Int) _ _ z ml _ HSA10.out HL1.out HV10.out HML.out).mono ?_; rintro e w11 ⟨rfl, hb11⟩
          rw [HG2.out]
          have HB11 := Lib.hid (HB10.out.trans (hb11.mono HB10.out.size))
          have HN11 := Lib.hid (HN10.out.below hb11)
          have HS11 := Lib.hid (HS10.out.below hb11)
          have HV11 := Lib.hid (HV10.out.below hb11)
          clear hb11 HB10 HSA10 HN10 HS10 HV10
          obtain ⟨n0, n1⟩ := HN11.out.k2
          go_wp2_with fail
          refine (holds_any (m : Int) _ _ l1 ml _ HS11.out HQ1.out HV11.out HML.out).mono ?_; rintro e w12 ⟨rfl, hb12⟩
          rw [HG3.out]
          have HB12 := Lib.hid (HB11.out.trans (hb12.mono HB11.out.size))
          clear hb12 n0 n1
          go_wp2_with fail
          go_ret
          exact Tells.of HB12.out
end Go.Proofs.Ytepeeeiekeppjaa
