/- Layer 13: ZoneAdd, the walk (tools/gen_zx.py). -/
import Derived.Test.YtepeeeiekeppjaaZnRd
import Derived.Test.YtepeeeiekeppjaaZnRn
import Derived.Test.YtepeeeiekeppjaaZnLw
import Derived.Test.YtepeeeiekeppjaaWd
namespace Go.Proofs.Ytepeeeiekeppjaa
open Go.RowKit

theorem addZ_row (N : Int) (b : List Int) (X Y C : Int) (hl : b.length ≤ 9223372036854775807) : ∃ n l e, addZ N b X Y C = ((n, l), .int .i64 e) ∧ l.length ≤ 9223372036854775807 := by
  unfold addZ
  split
  · split
    · exact ⟨_, _, _, rfl, by rw [addL_len]; exact hl⟩
    · exact ⟨_, _, _, rfl, by simp⟩
  · exact ⟨_, _, _, rfl, by simp⟩
theorem newR_row (k : Int) : ∃ n l e, newR k = ((n, l), .int .i64 e) ∧ l.length ≤ 9223372036854775807 := by
  unfold newR
  split
  · rename_i h
    unfold possB at h
    rw [decide_eq_true_iff] at h
    exact ⟨_, _, _, rfl, by rw [flat_len]; exact Nat.le_trans (Nat.mul_le_mul (by omega : k.toNat + 1 ≤ 25) (by omega : k.toNat + 1 ≤ 25)) (by decide)⟩
  · exact ⟨_, _, _, rfl, by simp⟩
set_option maxRecDepth 20000 in
set_option maxHeartbeats 2000000 in
theorem zoneadd_walk (N : Int) (A1 : Option Addr) (c1 : Nat) (z : List Int) (X Y C : Int) (k : Int) (w : World)
    (h1 : Sl iv w (.slice A1 z.length c1) z) (hl1 : z.length ≤ 9223372036854775807) :
    Calls Try.prog 3 #[.agg #[.int .i64 N, .slice A1 z.length c1], .agg #[.int .i64 X, .int .i64 Y, .int .i64 C], .int .i64 k] w (Tells w (.bool true)) := by
  have H1 := Lib.hid h1
  have HL1 := Lib.hid hl1
  clear h1 hl1
  go_enter Try.func3, Try.ntmps3
  go_wp2_with fail
  refine (awake_any _).mono ?_; rintro e w1 ⟨rfl, hb1⟩
  obtain ⟨HX1, HD1, HB1⟩ := two_boxes rfl rfl hb1
  obtain ⟨x0, x1⟩ := HX1.out.k2
  clear hb1
  go_wp2_with fail
  refine (few_any N A1 c1 z _ HL1.out).mono ?_; rintro e w4 ⟨rfl, hb2⟩
  have HB4 := Lib.hid (HB1.out.trans (hb2.mono HB1.out.size))
  have HXA := Lib.hid (HX1.out.below hb2)
  have HXD := Lib.hid (HD1.out.below hb2)
  have HSA := Lib.hid (H1.out.below HB4.out)
  clear hb2 x0 x1 HB1 HX1 HD1
  cases hfa : fewB N z with
  | false =>
    clear hfa HXA HXD HSA
    go_wp2_with fail
    refine (awake_any _).mono ?_; rintro e w9 ⟨rfl, hb⟩
    have HBZ := Lib.hid (HB4.out.trans (hb.mono HB4.out.size))
    clear hb
    go_wp2_with fail
    go_ret
    exact Tells.of HBZ.out
  | true =>
  clear hfa
  obtain ⟨n1, l1, e1, hE1, hQ1⟩ := addZ_row N z X Y C HL1.out
  obtain ⟨n2, l2, e2, hE2, hQ2⟩ := newR_row k
  have HE1 := Lib.hid hE1
  have HE2 := Lib.hid hE2
  have HQ1 := Lib.hid hQ1
  have HQ2 := Lib.hid hQ2
  clear hE1 hE2 hQ1 hQ2
  have HAD := Lib.hid (show ∀ w6, Below w4.heap.size w4 w6 → Calls Try.prog 14 #[.agg #[.int .i64 N, .slice A1 z.length c1], .agg #[.int .i64 X, .int .i64 Y, .int .i64 C]] w6 (ZP w6 ((n1, l1), .int .i64 e1)) from
    fun w6 h6 => by rw [← HE1.out]; exact add_any N X Y C _ z w6 (HSA.out.below h6) HL1.out)
  go_wp2_with fail
  refine region_invE (n := 84) (LwI (w4) 29 (fun zz => match zz with | 0 => .agg #[.int .i64 N, .slice A1 z.length c1] | 1 => .agg #[.int .i64 N, .slice A1 z.length c1] | 2 => .agg #[.int .i64 X, .int .i64 Y, .int .i64 C] | _ => undef) 3 (((n1, l1), .int .i64 e1))) (by kernel_rfl) (by kernel_rfl) rfl ?_ (allOps_spec ?_) ?_
  · intro vs
    exact LwI.start
  · refine ⟨?_, ?_, ?_, ?_, ?_, ?_, ?_, ?_, ?_, ?_, trivial⟩
    · intro L vs ac w6 hB hL hd hI
      have b3 : ac.tmps[3]?.getD undef = .pointer (some ⟨w.heap.size, 0, none⟩) := hB.at 3 (by kernel_rfl)
      have hlk : L 3 = false := (hB.wait 1 3 (hB.wait 0 1 hL (by kernel_rfl)) (by kernel_rfl))
      have hx := hI.bel
      have q0 := (HXA.out.below hx).cell 0
      have q1 := (HXA.out.below hx).cell 1
      exact stepI_run (v := .agg #[.int .i64 N, .slice A1 z.length c1]) rfl (by simp [execOp, go_sem, Act.eval, b3, q0, q1]) (hI.plain 0 (by decide) hlk (Below.refl _ _))
    · intro L vs ac w6 hB hL hd hI
      have b24 : ac.tmps[24]?.getD undef = .agg #[.int .i64 N, .slice A1 z.length c1] := (hB.val 0 (hd ⟨0, .data⟩ (by simp) rfl) 24 rfl).trans (hI.v 0 (by decide) (hd ⟨0, .data⟩ (by simp) rfl))
      have hlk : L 3 = false := (hB.wait 1 3 hL (by kernel_rfl))
      have hx := hI.bel
      refine stepI_call (f := 15) (args := #[.agg #[.int .i64 N, .slice A1 z.length c1]]) rfl (by simp [go_sem, b24]) ?_
      refine (own_any N A1 z.length c1 w6).mono ?_
      rintro e w9 ⟨rfl, h9⟩
      exact ⟨_, rfl, hI.plain 1 (by decide) hlk h9⟩
    · intro L vs ac w6 hB hL hd hI
      have b4 : ac.tmps[4]?.getD undef = .pointer (some ⟨w.heap.size + 1, 0, none⟩) := hB.at 4 (by kernel_rfl)
      have hlk : L 3 = false := (hB.wait 2 3 hL (by kernel_rfl))
      have hx := hI.bel
      have q0 := (HXD.out.below hx).cell 0
      have q1 := (HXD.out.below hx).cell 1
      have q2 := (HXD.out.below hx).cell 2
      exact stepI_run (v := .agg #[.int .i64 X, .int .i64 Y, .int .i64 C]) rfl (by simp [execOp, go_sem, Act.eval, b4, q0, q1, q2]) (hI.plain 2 (by decide) hlk (Below.refl _ _))
    · intro L vs ac w6 hB hL hd hI
      have b25 : ac.tmps[25]?.getD undef = .agg #[.int .i64 N, .slice A1 z.length c1] := (hB.val 1 (hd ⟨1, .data⟩ (by simp) rfl) 25 rfl).trans (hI.v 1 (by decide) (hd ⟨1, .data⟩ (by simp) rfl))
      have b26 : ac.tmps[26]?.getD undef = .agg #[.int .i64 X, .int .i64 Y, .int .i64 C] := (hB.val 2 (hd ⟨2, .data⟩ (by simp) rfl) 26 rfl).trans (hI.v 2 (by decide) (hd ⟨2, .data⟩ (by simp) rfl))
      have hl1 : L 4 = false := hB.wait 3 4 hL (by kernel_rfl)
      have hl2 : L 5 = false := hB.wait 4 5 hl1 (by kernel_rfl)
      have hl5 : L 8 = false := hB.wait 5 8 hl2 (by kernel_rfl)
      have hx := hI.bel
      refine stepI_call (f := 14) (args := #[.agg #[.int .i64 N, .slice A1 z.length c1], .agg #[.int .i64 X, .int .i64 Y, .int .i64 C]]) rfl (by simp [go_sem, b25, b26]) ?_
      exact (HAD.out w6 hx).mono fun e w9 h9 => hI.call hl1 hl2 hl5 h9
    · intro L vs ac w6 hB hL hd hI
      have hk : L 3 = true := hd ⟨3, .data⟩ (by simp) rfl
      have b : ac.tmps[27]?.getD undef = vs 3 := hB.val 3 hk 27 rfl
      exact stepI_run (v := vs 3) rfl (by simp [execOp, go_sem, Act.eval, b]) (hI.move hk)
    · intro L vs ac w6 hB hL hd hI
      have hm := hI.m (hd ⟨4, .data⟩ (by simp) rfl)
      obtain ⟨A9, c9, ek, -⟩ := hI.c hm.1
      have b : ac.tmps[23]?.getD undef = _ := (hB.val 4 (hd ⟨4, .data⟩ (by simp) rfl) 23 rfl).trans (hm.2.trans ek)
      exact stepI_run (v := fstV (vs 3)) rfl (by simp [execOp, go_sem, Act.eval, b, ek, fstV]) (hI.ext0 hm.1)
    · intro L vs ac w6 hB hL hd hI
      have hm := hI.m (hd ⟨4, .data⟩ (by simp) rfl)
      obtain ⟨A9, c9, ek, -⟩ := hI.c hm.1
      have b : ac.tmps[23]?.getD undef = _ := (hB.val 4 (hd ⟨4, .data⟩ (by simp) rfl) 23 rfl).trans (hm.2.trans ek)
      exact stepI_run (v := (((n1, l1), .int .i64 e1) : (Int × List Int) × Value).2) rfl (by simp [execOp, go_sem, Act.eval, b]) hI.ext1
    · intro L vs ac w6 hB hL hd hI
      have hl5 : L 8 = false := hB.wait 7 8 hL (by kernel_rfl)
      exact stepI_run (v := .pointer (some ⟨w6.heap.size, 0, none⟩)) (w' := w6.alloc (.cells #[.int .i64 0, .slice none 0 0] 29)) rfl (exec_alloc 29 rfl info_Zn) (hI.alc hl5)
    · intro L vs ac w6 hB hL hd hI
      have h4 : L 7 = true := hd ⟨7, .data⟩ (by simp) rfl
      have h2 : L 5 = true := hd ⟨5, .data⟩ (by simp) rfl
      obtain ⟨hk, e2⟩ := hI.e0 h2
      obtain ⟨A9, c9, ek, -⟩ := hI.c hk
      obtain ⟨nb, hv, -, hx, -⟩ := hI.al h4
      rw [hL, if_neg Bool.false_ne_true] at hx
      have bp : ac.tmps[7]?.getD undef = .pointer (some ⟨nb, 0, none⟩) := (hB.val 7 h4 7 rfl).trans hv
      have bq : ac.tmps[28]?.getD undef = .agg (cellsV (fstV (vs 3))) := (hB.val 5 h2 28 rfl).trans (e2.trans (by rw [ek]; rfl))
      exact stepI_store_row rfl 29 7 28 rfl nb _ bp bq _ hx (by rw [ek]; kernel_rfl) (by rw [ek]; rfl) (by rw [ek]; simp [cellsV, fstV, Value.oneCell']) (hI.sto h4 hk hv)
    · intro L vs ac w6 hB hL hd hI
      have h3 : L 6 = true := hd ⟨6, .data⟩ (by simp) rfl
      have b : ac.tmps[29]?.getD undef = (((n1, l1), .int .i64 e1) : (Int × List Int) × Value).2 := (hB.val 6 h3 29 rfl).trans (hI.e1 h3)
      exact stepI_run (v := (((n1, l1), .int .i64 e1) : (Int × List Int) × Value).2) rfl (by simp [execOp, go_sem, Act.eval, b]) hI.asg
  · intro L vs w5 hall hI
    obtain ⟨nb5, A5, c5, ee1, ee2, hnb5, hx5, ho5, hne5, hb5⟩ := hI.fin fun i hi => hall i hi
    clear hI hall
    simp only [putAll, Act.put, List.setIfInBounds_toArray, List.set_cons_zero, List.set_cons_succ, Nat.zero_add, Nat.reduceAdd, ee1, ee2]
    clear ee1 ee2
    dsimp only at hx5 ho5 hne5
    have HB5 := Lib.hid (HB4.out.trans (hb5.mono HB4.out.size))
    have HXA5 := Lib.hid (HXA.out.below hb5)
    have HXD5 := Lib.hid (HXD.out.below hb5)
    have HSA5 := Lib.hid (HSA.out.below hb5)
    have HN5 := Lib.hid hx5
    have HS5 := Lib.hid (Own.sl ho5)
    obtain ⟨x0, x1⟩ := HXA5.out.k2
    obtain ⟨d0, d1, d2⟩ := HXD5.out.k3
    clear hx5 ho5 hne5 hb5 hnb5 HB4 HXA HXD HSA HAD
    go_wp2_with fail
    refine (radd_any N X Y C _ z _ HSA5.out HL1.out).mono ?_; rintro e w6 ⟨v6, rfl, ho6, hb6⟩; rw [HE1.out] at ho6 ⊢
    dsimp only at ho6 ⊢
    obtain ⟨A6, c6, rfl⟩ := own_shapeG ho6
    have hb6a := hb6.trans ((al1 w6 (.cells #[.int .i64 n1, .slice A6 l1.length c6] 24)).mono hb6.size)
    have HB6 := Lib.hid (HB5.out.trans (hb6a.mono HB5.out.size))
    have HXA6 := Lib.hid (HXA5.out.below hb6a)
    have HXD6 := Lib.hid (HXD5.out.below hb6a)
    have HSA6 := Lib.hid (HSA5.out.below hb6a)
    have HN6 := Lib.hid (HN5.out.below hb6a)
    have HS6 := Lib.hid (HS5.out.below hb6a)
    have HM6 := Lib.hid (Bx.new w6 24 #[.int .i64 n1, .slice A6 l1.length c6])
    have HT6 := Lib.hid ((Own.sl (show Own w6 _ _ _ l1 from ho6)).below (al1 w6 (.cells #[.int .i64 n1, .slice A6 l1.length c6] 24)))
    clear x0 x1 d0 d1 d2 HB5 HXA5 HXD5 HSA5 HN5 HS5 hb6 ho6 hb6a
    go_wp2_with fail
    refine (new_any k _).mono ?_; rintro e w7 ⟨v7, rfl, ho7, hb7⟩; rw [HE2.out] at ho7 ⊢
    dsimp only at ho7 ⊢
    obtain ⟨A7, c7, rfl⟩ := own_shapeG ho7
    have hb7a := hb7.trans ((al1 w7 (.cells #[.int .i64 n2, .slice A7 l2.length c7] 29)).mono hb7.size)
    have HB7 := Lib.hid (HB6.out.trans (hb7a.mono HB6.out.size))
    have HXA7 := Lib.hid (HXA6.out.below hb7a)
    have HXD7 := Lib.hid (HXD6.out.below hb7a)
    have HSA7 := Lib.hid (HSA6.out.below hb7a)
    have HN7 := Lib.hid (HN6.out.below hb7a)
    have HS7 := Lib.hid (HS6.out.below hb7a)
    have HM7 := Lib.hid (HM6.out.below hb7a)
    have HT7 := Lib.hid (HT6.out.below hb7a)
    have HO7 := Lib.hid (Bx.new w7 29 #[.int .i64 n2, .slice A7 l2.length c7])
    have HU7 := Lib.hid ((Own.sl (show Own w7 _ _ _ l2 from ho7)).below (al1 w7 (.cells #[.int .i64 n2, .slice A7 l2.length c7] 29)))
    clear HB6 HXA6 HXD6 HSA6 HN6 HS6 HM6 HT6 hb7 ho7 hb7a
    go_wp2_with fail
    refine (rnew_any k _).mono ?_; rintro e w8 ⟨v8, rfl, ho8, hb8⟩; rw [HE2.out] at ho8 ⊢
    dsimp only at ho8 ⊢
    obtain ⟨A8, c8, rfl⟩ := own_shapeG ho8
    have hb8a := hb8.trans ((al1 w8 (.cells #[.int .i64 n2, .slice A8 l2.length c8] 24)).mono hb8.size)
    have HB8 := Lib.hid (HB7.out.trans (hb8a.mono HB7.out.size))
    have HXA8 := Lib.hid (HXA7.out.below hb8a)
    have HXD8 := Lib.hid (HXD7.out.below hb8a)
    have HSA8 := Lib.hid (HSA7.out.below hb8a)
    have HN8 := Lib.hid (HN7.out.below hb8a)
    have HS8 := Lib.hid (HS7.out.below hb8a)
    have HM8 := Lib.hid (HM7.out.below hb8a)
    have HT8 := Lib.hid (HT7.out.below hb8a)
    have HO8 := Lib.hid (HO7.out.below hb8a)
    have HU8 := Lib.hid (HU7.out.below hb8a)
    have HP8 := Lib.hid (Bx.new w8 24 #[.int .i64 n2, .slice A8 l2.length c8])
    have HV8 := Lib.hid ((Own.sl (show Own w8 _ _ _ l2 from ho8)).below (al1 w8 (.cells #[.int .i64 n2, .slice A8 l2.length c8] 24)))
    clear HB7 HXA7 HXD7 HSA7 HN7 HS7 HM7 HT7 HO7 HU7 hb8 ho8 hb8a
    obtain ⟨V, hV⟩ : ∃ V, V = zvB N z := ⟨_, rfl⟩
    obtain ⟨J, hJ⟩ : ∃ J, J = impR N z X Y C := ⟨_, rfl⟩
    have HV := Lib.hid hV
    have HJ := Lib.hid hJ
    clear hV hJ
    go_wp2_with fail
    generalize hww : (w8.alloc (.cells #[.int .i64 n2, .slice A8 l2.length c8] 24)) = ww at *
    clear hww
    have HSM1 := Lib.hid (show ∀ w6, Below ww.heap.size ww w6 → Calls Try.prog 19 #[.agg #[.int .i64 n1, .slice A5 l1.length c5], .agg #[.int .i64 n1, .slice A6 l1.length c6]] w6 (Tells w6 (.bool true)) from
      fun w6 h6 => by
        have h9 := rsame_any n1 n1 _ _ l1 l1 w6 (HS8.out.below h6) HQ1.out (HT8.out.below h6)
        rwa [decide_eq_true (show n1 = n1 ∧ l1 = l1 from ⟨rfl, rfl⟩)] at h9)
    have HSM2 := Lib.hid (show ∀ w6, Below ww.heap.size ww w6 → Calls Try.prog 19 #[.agg #[.int .i64 n2, .slice A7 l2.length c7], .agg #[.int .i64 n2, .slice A8 l2.length c8]] w6 (Tells w6 (.bool true)) from
      fun w6 h6 => by
        have h9 := rsame_any n2 n2 _ _ l2 l2 w6 (HU8.out.below h6) HQ2.out (HV8.out.below h6)
        rwa [decide_eq_true (show n2 = n2 ∧ l2 = l2 from ⟨rfl, rfl⟩)] at h9)
    have HVA := Lib.hid (show ∀ w6, Below ww.heap.size ww w6 → Calls Try.prog 21 #[.agg #[.int .i64 N, .slice A1 z.length c1]] w6 (Tells w6 (.bool V)) from
      fun w6 h6 => by rw [HV.out]; exact valid_any N _ z w6 (HSA8.out.below h6) HL1.out)
    have HVB := Lib.hid (show ∀ w6, Below ww.heap.size ww w6 → Calls Try.prog 22 #[.agg #[.int .i64 N, .slice A1 z.length c1]] w6 (Tells w6 (.bool V)) from
      fun w6 h6 => by rw [HV.out]; exact rvalid_any N _ z w6 (HSA8.out.below h6) HL1.out)
    have HIA := Lib.hid (show ∀ w6, Below ww.heap.size ww w6 → Calls Try.prog 23 #[.agg #[.int .i64 N, .slice A1 z.length c1], .agg #[.int .i64 X, .int .i64 Y, .int .i64 C]] w6 (Tells w6 (.bool J)) from
      fun w6 h6 => by rw [HJ.out]; exact implies_any N X Y C _ z w6 (HSA8.out.below h6) HL1.out)
    have HIB := Lib.hid (show ∀ w6, Below ww.heap.size ww w6 → Calls Try.prog 24 #[.agg #[.int .i64 N, .slice A1 z.length c1], .agg #[.int .i64 X, .int .i64 Y, .int .i64 C]] w6 (Tells w6 (.bool J)) from
      fun w6 h6 => by rw [HJ.out]; exact rimplies_any N X Y C _ z w6 (HSA8.out.below h6) HL1.out)
    refine region_phi (n := 84) (Wd [(false, .int .i64 e1),
        (false, .int .i64 e1),
        (false, .bool true),
        (false, .bool true),
        (false, .agg #[.int .i64 n1, .slice A5 l1.length c5]),
        (false, .agg #[.int .i64 n1, .slice A5 l1.length c5]),
        (false, .agg #[.int .i64 n1, .slice A6 l1.length c6]),
        (false, .bool true),
        (false, .bool true),
        (false, .bool true),
        (false, .int .i64 e2),
        (false, .int .i64 e2),
        (false, .bool true),
        (false, .bool true),
        (false, .bool true),
        (false, .agg #[.int .i64 n2, .slice A7 l2.length c7]),
        (false, .agg #[.int .i64 n2, .slice A7 l2.length c7]),
        (false, .agg #[.int .i64 n2, .slice A8 l2.length c8]),
        (false, .bool true),
        (false, .bool true),
        (false, .bool true),
        (false, .agg #[.int .i64 N, .slice A1 z.length c1]),
        (false, .agg #[.int .i64 N, .slice A1 z.length c1]),
        (false, .bool V),
        (false, .agg #[.int .i64 N, .slice A1 z.length c1]),
        (false, .bool V),
        (false, .bool true),
        (false, .bool true),
        (false, .bool true),
        (false, .agg #[.int .i64 N, .slice A1 z.length c1]),
        (false, .agg #[.int .i64 N, .slice A1 z.length c1]),
        (false, .agg #[.int .i64 X, .int .i64 Y, .int .i64 C]),
        (false, .bool J),
        (false, .agg #[.int .i64 N, .slice A1 z.length c1]),
        (false, .agg #[.int .i64 X, .int .i64 Y, .int .i64 C]),
        (false, .bool J),
        (false, .bool true),
        (false, .bool true),
        (false, .bool true)]) (by kernel_rfl) (by kernel_rfl) rfl (fun _ _ _ _ h _ => h) (allOps_spec ?_) ?_
    · refine ⟨?_, ?_, ?_, ?_, ?_, ?_, ?_, ?_, ?_, ?_, ?_, ?_, ?_, ?_, ?_, ?_, ?_, ?_, ?_, ?_, ?_, ?_, ?_, ?_, ?_, ?_, ?_, ?_, ?_, ?_, ?_, ?_, ?_, ?_, ?_, ?_, ?_, ?_, ?_, trivial⟩
      · intro ac w' hb hp
        have b8 : ac.tmps[8]?.getD undef = .int .i64 e1 := hb.at 8 (by kernel_rfl)
        exact wd_run rfl rfl (by simp [execOp, go_sem, Act.eval, b8])
      · intro ac w' hb hp
        have b10 : ac.tmps[10]?.getD undef = .int .i64 e1 := hb.at 10 (by kernel_rfl)
        exact wd_run rfl rfl (by simp [execOp, go_sem, Act.eval, b10])
      · exact fun ac w' hb hp => wd_run rfl rfl (by simp [execOp, go_sem, Act.eval, wd_get (hp ⟨0, .data⟩ (by simp) rfl _ rfl) rfl rfl, wd_get (hp ⟨1, .data⟩ (by simp) rfl _ rfl) rfl rfl])
      · exact fun ac w' hb hp => wd_run rfl rfl (by simp [execOp, go_sem, Act.eval, wd_get (hp ⟨2, .data⟩ (by simp) rfl _ rfl) rfl rfl])
      · intro ac w' hb hp
        have gg := wd_get (hp ⟨3, .guard⟩ (by simp) rfl _ rfl) rfl rfl
        have b7 : ac.tmps[7]?.getD undef = .pointer (some ⟨nb5, 0, none⟩) := hb.at 7 (by kernel_rfl)
        have q0 := (HN8.out.below hb.ext).cell 0
        have q1 := (HN8.out.below hb.ext).cell 1
        exact wd_run rfl (by simp [Region.wanted, yielded, bool_at gg]) (by simp [execOp, go_sem, Act.eval, b7, q0, q1])
      · intro ac w' hb hp
        have gg := wd_get (hp ⟨3, .guard⟩ (by simp) rfl _ rfl) rfl rfl
        refine step_call (f := 20) (args := #[.agg #[.int .i64 n1, .slice A5 l1.length c5]]) (by simp [Region.wanted, yielded, bool_at gg]) (by simp [go_sem, wd_get (hp ⟨4, .data⟩ (by simp) rfl _ rfl) rfl rfl]) ?_
        exact (theirs_any n1 A5 l1.length c5 w').mono fun e w9 h9 => ⟨_, h9.1, h9.2, wd_mk rfl fun _ => rfl⟩
      · intro ac w' hb hp
        have gg := wd_get (hp ⟨3, .guard⟩ (by simp) rfl _ rfl) rfl rfl
        have b9 : ac.tmps[9]?.getD undef = .pointer (some ⟨w6.heap.size, 0, none⟩) := hb.at 9 (by kernel_rfl)
        have q0 := (HM8.out.below hb.ext).cell 0
        have q1 := (HM8.out.below hb.ext).cell 1
        exact wd_run rfl (by simp [Region.wanted, yielded, bool_at gg]) (by simp [execOp, go_sem, Act.eval, b9, q0, q1])
      · intro ac w' hb hp
        have gg := wd_get (hp ⟨3, .guard⟩ (by simp) rfl _ rfl) rfl rfl
        refine step_call (f := 19) (args := #[.agg #[.int .i64 n1, .slice A5 l1.length c5], .agg #[.int .i64 n1, .slice A6 l1.length c6]]) (by simp [Region.wanted, yielded, bool_at gg]) (by simp [go_sem, wd_get (hp ⟨5, .data⟩ (by simp) rfl _ rfl) rfl rfl, wd_get (hp ⟨6, .data⟩ (by simp) rfl _ rfl) rfl rfl]) ?_
        exact (HSM1.out w' hb.ext).mono fun e w9 h9 => ⟨_, h9.1, h9.2, wd_mk rfl fun _ => rfl⟩
      · exact fun ac w' hb hp => wd_run rfl rfl (by simp [execOp, go_sem, Act.eval, wd_get (hp ⟨3, .data⟩ (by simp) rfl _ rfl) rfl rfl, wd_get (hp ⟨7, .data⟩ (by simp) rfl _ rfl) rfl rfl])
      · exact fun ac w' hb hp => wd_run rfl rfl (by simp [execOp, go_sem, Act.eval, wd_get (hp ⟨8, .data⟩ (by simp) rfl _ rfl) rfl rfl])
      · intro ac w' hb hp
        have gg := wd_get (hp ⟨9, .guard⟩ (by simp) rfl _ rfl) rfl rfl
        have b12 : ac.tmps[12]?.getD undef = .int .i64 e2 := hb.at 12 (by kernel_rfl)
        exact wd_run rfl (by simp [Region.wanted, yielded, bool_at gg]) (by simp [execOp, go_sem, Act.eval, b12])
      · intro ac w' hb hp
        have gg := wd_get (hp ⟨9, .guard⟩ (by simp) rfl _ rfl) rfl rfl
        have b14 : ac.tmps[14]?.getD undef = .int .i64 e2 := hb.at 14 (by kernel_rfl)
        exact wd_run rfl (by simp [Region.wanted, yielded, bool_at gg]) (by simp [execOp, go_sem, Act.eval, b14])
      · intro ac w' hb hp
        have gg := wd_get (hp ⟨9, .guard⟩ (by simp) rfl _ rfl) rfl rfl
        exact wd_run rfl (by simp [Region.wanted, yielded, bool_at gg]) (by simp [execOp, go_sem, Act.eval, wd_get (hp ⟨10, .data⟩ (by simp) rfl _ rfl) rfl rfl, wd_get (hp ⟨11, .data⟩ (by simp) rfl _ rfl) rfl rfl])
      · exact fun ac w' hb hp => wd_run rfl rfl (by simp [execOp, go_sem, Act.eval, wd_get (hp ⟨9, .data⟩ (by simp) rfl _ rfl) rfl rfl, wd_get (hp ⟨12, .data⟩ (by simp) rfl _ rfl) rfl rfl])
      · exact fun ac w' hb hp => wd_run rfl rfl (by simp [execOp, go_sem, Act.eval, wd_get (hp ⟨13, .data⟩ (by simp) rfl _ rfl) rfl rfl])
      · intro ac w' hb hp
        have gg := wd_get (hp ⟨14, .guard⟩ (by simp) rfl _ rfl) rfl rfl
        have b11 : ac.tmps[11]?.getD undef = .pointer (some ⟨w7.heap.size, 0, none⟩) := hb.at 11 (by kernel_rfl)
        have q0 := (HO8.out.below hb.ext).cell 0
        have q1 := (HO8.out.below hb.ext).cell 1
        exact wd_run rfl (by simp [Region.wanted, yielded, bool_at gg]) (by simp [execOp, go_sem, Act.eval, b11, q0, q1])
      · intro ac w' hb hp
        have gg := wd_get (hp ⟨14, .guard⟩ (by simp) rfl _ rfl) rfl rfl
        refine step_call (f := 20) (args := #[.agg #[.int .i64 n2, .slice A7 l2.length c7]]) (by simp [Region.wanted, yielded, bool_at gg]) (by simp [go_sem, wd_get (hp ⟨15, .data⟩ (by simp) rfl _ rfl) rfl rfl]) ?_
        exact (theirs_any n2 A7 l2.length c7 w').mono fun e w9 h9 => ⟨_, h9.1, h9.2, wd_mk rfl fun _ => rfl⟩
      · intro ac w' hb hp
        have gg := wd_get (hp ⟨14, .guard⟩ (by simp) rfl _ rfl) rfl rfl
        have b13 : ac.tmps[13]?.getD undef = .pointer (some ⟨w8.heap.size, 0, none⟩) := hb.at 13 (by kernel_rfl)
        have q0 := (HP8.out.below hb.ext).cell 0
        have q1 := (HP8.out.below hb.ext).cell 1
        exact wd_run rfl (by simp [Region.wanted, yielded, bool_at gg]) (by simp [execOp, go_sem, Act.eval, b13, q0, q1])
      · intro ac w' hb hp
        have gg := wd_get (hp ⟨14, .guard⟩ (by simp) rfl _ rfl) rfl rfl
        refine step_call (f := 19) (args := #[.agg #[.int .i64 n2, .slice A7 l2.length c7], .agg #[.int .i64 n2, .slice A8 l2.length c8]]) (by simp [Region.wanted, yielded, bool_at gg]) (by simp [go_sem, wd_get (hp ⟨16, .data⟩ (by simp) rfl _ rfl) rfl rfl, wd_get (hp ⟨17, .data⟩ (by simp) rfl _ rfl) rfl rfl]) ?_
        exact (HSM2.out w' hb.ext).mono fun e w9 h9 => ⟨_, h9.1, h9.2, wd_mk rfl fun _ => rfl⟩
      · exact fun ac w' hb hp => wd_run rfl rfl (by simp [execOp, go_sem, Act.eval, wd_get (hp ⟨14, .data⟩ (by simp) rfl _ rfl) rfl rfl, wd_get (hp ⟨18, .data⟩ (by simp) rfl _ rfl) rfl rfl])
      · exact fun ac w' hb hp => wd_run rfl rfl (by simp [execOp, go_sem, Act.eval, wd_get (hp ⟨19, .data⟩ (by simp) rfl _ rfl) rfl rfl])
      · intro ac w' hb hp
        have gg := wd_get (hp ⟨20, .guard⟩ (by simp) rfl _ rfl) rfl rfl
        have b3 : ac.tmps[3]?.getD undef = .pointer (some ⟨w.heap.size, 0, none⟩) := hb.at 3 (by kernel_rfl)
        have q0 := (HXA8.out.below hb.ext).cell 0
        have q1 := (HXA8.out.below hb.ext).cell 1
        exact wd_run rfl (by simp [Region.wanted, yielded, bool_at gg]) (by simp [execOp, go_sem, Act.eval, b3, q0, q1])
      · intro ac w' hb hp
        have gg := wd_get (hp ⟨20, .guard⟩ (by simp) rfl _ rfl) rfl rfl
        refine step_call (f := 15) (args := #[.agg #[.int .i64 N, .slice A1 z.length c1]]) (by simp [Region.wanted, yielded, bool_at gg]) (by simp [go_sem, wd_get (hp ⟨21, .data⟩ (by simp) rfl _ rfl) rfl rfl]) ?_
        exact (own_any N A1 z.length c1 w').mono fun e w9 h9 => ⟨_, h9.1, h9.2, wd_mk rfl fun _ => rfl⟩
      · intro ac w' hb hp
        have gg := wd_get (hp ⟨20, .guard⟩ (by simp) rfl _ rfl) rfl rfl
        refine step_call (f := 21) (args := #[.agg #[.int .i64 N, .slice A1 z.length c1]]) (by simp [Region.wanted, yielded, bool_at gg]) (by simp [go_sem, wd_get (hp ⟨22, .data⟩ (by simp) rfl _ rfl) rfl rfl]) ?_
        exact (HVA.out w' hb.ext).mono fun e w9 h9 => ⟨_, h9.1, h9.2, wd_mk rfl fun _ => rfl⟩
      · intro ac w' hb hp
        have gg := wd_get (hp ⟨20, .guard⟩ (by simp) rfl _ rfl) rfl rfl
        have b3 : ac.tmps[3]?.getD undef = .pointer (some ⟨w.heap.size, 0, none⟩) := hb.at 3 (by kernel_rfl)
        have q0 := (HXA8.out.below hb.ext).cell 0
        have q1 := (HXA8.out.below hb.ext).cell 1
        exact wd_run rfl (by simp [Region.wanted, yielded, bool_at gg]) (by simp [execOp, go_sem, Act.eval, b3, q0, q1])
      · intro ac w' hb hp
        have gg := wd_get (hp ⟨20, .guard⟩ (by simp) rfl _ rfl) rfl rfl
        refine step_call (f := 22) (args := #[.agg #[.int .i64 N, .slice A1 z.length c1]]) (by simp [Region.wanted, yielded, bool_at gg]) (by simp [go_sem, wd_get (hp ⟨24, .data⟩ (by simp) rfl _ rfl) rfl rfl]) ?_
        exact (HVB.out w' hb.ext).mono fun e w9 h9 => ⟨_, h9.1, h9.2, wd_mk rfl fun _ => rfl⟩
      · intro ac w' hb hp
        have gg := wd_get (hp ⟨20, .guard⟩ (by simp) rfl _ rfl) rfl rfl
        exact wd_run rfl (by simp [Region.wanted, yielded, bool_at gg]) (by simp [execOp, go_sem, Act.eval, wd_get (hp ⟨23, .data⟩ (by simp) rfl _ rfl) rfl rfl, wd_get (hp ⟨25, .data⟩ (by simp) rfl _ rfl) rfl rfl])
      · exact fun ac w' hb hp => wd_run rfl rfl (by simp [execOp, go_sem, Act.eval, wd_get (hp ⟨20, .data⟩ (by simp) rfl _ rfl) rfl rfl, wd_get (hp ⟨26, .data⟩ (by simp) rfl _ rfl) rfl rfl])
      · exact fun ac w' hb hp => wd_run rfl rfl (by simp [execOp, go_sem, Act.eval, wd_get (hp ⟨27, .data⟩ (by simp) rfl _ rfl) rfl rfl])
      · intro ac w' hb hp
        have gg := wd_get (hp ⟨28, .guard⟩ (by simp) rfl _ rfl) rfl rfl
        have b3 : ac.tmps[3]?.getD undef = .pointer (some ⟨w.heap.size, 0, none⟩) := hb.at 3 (by kernel_rfl)
        have q0 := (HXA8.out.below hb.ext).cell 0
        have q1 := (HXA8.out.below hb.ext).cell 1
        exact wd_run rfl (by simp [Region.wanted, yielded, bool_at gg]) (by simp [execOp, go_sem, Act.eval, b3, q0, q1])
      · intro ac w' hb hp
        have gg := wd_get (hp ⟨28, .guard⟩ (by simp) rfl _ rfl) rfl rfl
        refine step_call (f := 15) (args := #[.agg #[.int .i64 N, .slice A1 z.length c1]]) (by simp [Region.wanted, yielded, bool_at gg]) (by simp [go_sem, wd_get (hp ⟨29, .data⟩ (by simp) rfl _ rfl) rfl rfl]) ?_
        exact (own_any N A1 z.length c1 w').mono fun e w9 h9 => ⟨_, h9.1, h9.2, wd_mk rfl fun _ => rfl⟩
      · intro ac w' hb hp
        have gg := wd_get (hp ⟨28, .guard⟩ (by simp) rfl _ rfl) rfl rfl
        have b4 : ac.tmps[4]?.getD undef = .pointer (some ⟨w.heap.size + 1, 0, none⟩) := hb.at 4 (by kernel_rfl)
        have q0 := (HXD8.out.below hb.ext).cell 0
        have q1 := (HXD8.out.below hb.ext).cell 1
        have q2 := (HXD8.out.below hb.ext).cell 2
        exact wd_run rfl (by simp [Region.wanted, yielded, bool_at gg]) (by simp [execOp, go_sem, Act.eval, b4, q0, q1, q2])
      · intro ac w' hb hp
        have gg := wd_get (hp ⟨28, .guard⟩ (by simp) rfl _ rfl) rfl rfl
        refine step_call (f := 23) (args := #[.agg #[.int .i64 N, .slice A1 z.length c1], .agg #[.int .i64 X, .int .i64 Y, .int .i64 C]]) (by simp [Region.wanted, yielded, bool_at gg]) (by simp [go_sem, wd_get (hp ⟨30, .data⟩ (by simp) rfl _ rfl) rfl rfl, wd_get (hp ⟨31, .data⟩ (by simp) rfl _ rfl) rfl rfl]) ?_
        exact (HIA.out w' hb.ext).mono fun e w9 h9 => ⟨_, h9.1, h9.2, wd_mk rfl fun _ => rfl⟩
      · intro ac w' hb hp
        have gg := wd_get (hp ⟨28, .guard⟩ (by simp) rfl _ rfl) rfl rfl
        have b3 : ac.tmps[3]?.getD undef = .pointer (some ⟨w.heap.size, 0, none⟩) := hb.at 3 (by kernel_rfl)
        have q0 := (HXA8.out.below hb.ext).cell 0
        have q1 := (HXA8.out.below hb.ext).cell 1
        exact wd_run rfl (by simp [Region.wanted, yielded, bool_at gg]) (by simp [execOp, go_sem, Act.eval, b3, q0, q1])
      · intro ac w' hb hp
        have gg := wd_get (hp ⟨28, .guard⟩ (by simp) rfl _ rfl) rfl rfl
        have b4 : ac.tmps[4]?.getD undef = .pointer (some ⟨w.heap.size + 1, 0, none⟩) := hb.at 4 (by kernel_rfl)
        have q0 := (HXD8.out.below hb.ext).cell 0
        have q1 := (HXD8.out.below hb.ext).cell 1
        have q2 := (HXD8.out.below hb.ext).cell 2
        exact wd_run rfl (by simp [Region.wanted, yielded, bool_at gg]) (by simp [execOp, go_sem, Act.eval, b4, q0, q1, q2])
      · intro ac w' hb hp
        have gg := wd_get (hp ⟨28, .guard⟩ (by simp) rfl _ rfl) rfl rfl
        refine step_call (f := 24) (args := #[.agg #[.int .i64 N, .slice A1 z.length c1], .agg #[.int .i64 X, .int .i64 Y, .int .i64 C]]) (by simp [Region.wanted, yielded, bool_at gg]) (by simp [go_sem, wd_get (hp ⟨33, .data⟩ (by simp) rfl _ rfl) rfl rfl, wd_get (hp ⟨34, .data⟩ (by simp) rfl _ rfl) rfl rfl]) ?_
        exact (HIB.out w' hb.ext).mono fun e w9 h9 => ⟨_, h9.1, h9.2, wd_mk rfl fun _ => rfl⟩
      · intro ac w' hb hp
        have gg := wd_get (hp ⟨28, .guard⟩ (by simp) rfl _ rfl) rfl rfl
        exact wd_run rfl (by simp [Region.wanted, yielded, bool_at gg]) (by simp [execOp, go_sem, Act.eval, wd_get (hp ⟨32, .data⟩ (by simp) rfl _ rfl) rfl rfl, wd_get (hp ⟨35, .data⟩ (by simp) rfl _ rfl) rfl rfl])
      · exact fun ac w' hb hp => wd_run rfl rfl (by simp [execOp, go_sem, Act.eval, wd_get (hp ⟨28, .data⟩ (by simp) rfl _ rfl) rfl rfl, wd_get (hp ⟨36, .data⟩ (by simp) rfl _ rfl) rfl rfl])
      · exact fun ac w' hb hp => wd_run rfl rfl (by simp [execOp, go_sem, Act.eval, wd_get (hp ⟨37, .data⟩ (by simp) rfl _ rfl) rfl rfl])
    · intro vz w9 hext hall
      have HEXT := Lib.hid hext
      have e38 : vz 38 = .bool true := hall 38 (by decide) rfl
      clear hext hall
      simp only [putAll, Act.put, List.setIfInBounds_toArray, List.set_cons_zero, List.set_cons_succ, Nat.zero_add, Nat.reduceAdd, e38]
      clear e38
      have HB9 := Lib.hid (HB8.out.trans (HEXT.out.mono HB8.out.size))
      go_wp2_with fail
      go_ret
      exact Tells.of HB9.out
end Go.Proofs.Ytepeeeiekeppjaa
