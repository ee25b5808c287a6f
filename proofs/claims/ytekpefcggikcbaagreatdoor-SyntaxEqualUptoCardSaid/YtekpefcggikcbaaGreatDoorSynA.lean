/- Layer 10: the contracts of the parser's methods that fill structs: again, send, call. -/
import Derived.Test.YtekpefcggikcbaaGreatDoorMSynU
namespace Go.Proofs.YtekpefcggikcbaaGreatDoor
open Go.RowKit
abbrev oSynA0 : Obj := .cells #[.int .i64 0, .string ⟨#[]⟩, .slice none 0 0, .string ⟨#[]⟩, .string ⟨#[]⟩, .int .i64 0, .slice none 0 0] 70

section
variable {w w' : World} {g E : Nat} {s : St}
set_option maxRecDepth 20000 in
set_option maxHeartbeats 400000 in
theorem pagain_any (h : Prs w g E s) : Calls Tryz.prog 228 #[.pointer (some ⟨g, 0, none⟩)] w (GotL w g E (againP E s).2 (dIt (againP E s).1)) := by
 have H := Lib.hid h
 have hlt := h.lt
 have HO := Lib.hid (Only.refl g w)
 obtain ⟨s1, hs1⟩ : ∃ s1, (pathP E s).2 = s1 := ⟨_, rfl⟩
 obtain ⟨nm, hv1⟩ : ∃ nm, (pathP E s).1 = nm := ⟨_, rfl⟩
 obtain ⟨s2, hs2⟩ : ∃ s2, (expectP E [59] s1).2 = s2 := ⟨_, rfl⟩
 have HR := Lib.hid (show againP E s = (It.mk 4 [] [] nm [] 0 [], s2) by subst hs1; subst hv1; subst hs2;  rfl)
 rw [HR.out]
 have HS1 := Lib.hid hs1
 have HV1 := Lib.hid hv1
 have HS2 := Lib.hid hs2
 clear hs1 hv1 hs2
 clear h
 go_enter Tryz.func228, Tryz.ntmps228
 have P1' : Hid (Prs ((w).alloc oSynA0) g E _) := H.out.alloc _
 have O1' : Hid (Only g w ((w).alloc oSynA0)) := HO.out.alloc _
 have Br_1 : Hid (Bx ((w).alloc oSynA0) (w.heap.size) 70 #[.int .i64 0, .string ⟨#[]⟩, .slice none 0 0, .string ⟨#[]⟩, .string ⟨#[]⟩, .int .i64 0, .slice none 0 0]) := Bx.new2 (rfl)
 go_wp2_with fail
 refine (ppath_any P1'.out).mono ?_; rintro e w2 ⟨rfl, P2, O2⟩
 rw [HS1.out] at P2
 rw [HV1.out]
 have P2' := Lib.hid P2
 have O2' := Lib.hid (O1'.out.trans O2)
 have Br_2 := Lib.hid (Br_1.out.only O2 (by omega))
 have hz2 : w.heap.size + 1 ≤ w2.heap.size := by have := O2.size; simp only [size_alloc] at this; exact this
 clear P2 O2
 have P3' : Hid (Prs ((w2).alloc (.cells #[.int .i64 4, .string ⟨#[]⟩, .slice none 0 0, .string (ofL nm), .string ⟨#[]⟩, .int .i64 0, .slice none 0 0] 70)) g E _) := P2'.out.alloc _
 have O3' : Hid (Only g w ((w2).alloc (.cells #[.int .i64 4, .string ⟨#[]⟩, .slice none 0 0, .string (ofL nm), .string ⟨#[]⟩, .int .i64 0, .slice none 0 0] 70))) := O2'.out.alloc _
 have Br_3 : Hid (Bx ((w2).alloc (.cells #[.int .i64 4, .string ⟨#[]⟩, .slice none 0 0, .string (ofL nm), .string ⟨#[]⟩, .int .i64 0, .slice none 0 0] 70)) (w.heap.size) _ _) := Br_2.out.alloc _
 have Bx_3 : Hid (Bx ((w2).alloc (.cells #[.int .i64 4, .string ⟨#[]⟩, .slice none 0 0, .string (ofL nm), .string ⟨#[]⟩, .int .i64 0, .slice none 0 0] 70)) (w2.heap.size) 70 #[.int .i64 4, .string ⟨#[]⟩, .slice none 0 0, .string (ofL nm), .string ⟨#[]⟩, .int .i64 0, .slice none 0 0]) := Bx.new2 (rfl)
 go_wp2_with fail
 refine (pexpect_any P3'.out [59]).mono ?_; rintro e w4 ⟨rfl, P4, O4⟩
 rw [HS2.out] at P4
 have P4' := Lib.hid P4
 have O4' := Lib.hid (O3'.out.trans O4)
 have Br_4 := Lib.hid (Br_3.out.only O4 (by omega))
 have Bx_4 := Lib.hid (Bx_3.out.only O4 (by omega))
 have hz4 : w2.heap.size + 1 ≤ w4.heap.size := by have := O4.size; simp only [size_alloc] at this; exact this
 clear P4 O4
 obtain ⟨cr_0, cr_1, cr_2, cr_3, cr_4, cr_5, cr_6⟩ := Br_4.out.k7
 obtain ⟨fr_0, fr_1, fr_2, fr_3, fr_4, fr_5, fr_6⟩ := Br_4.out.f7
 obtain ⟨cx_0, cx_1, cx_2, cx_3, cx_4, cx_5, cx_6⟩ := Bx_4.out.k7
 obtain ⟨fx_0, fx_1, fx_2, fx_3, fx_4, fx_5, fx_6⟩ := Bx_4.out.f7
 go_wp2_with fail
 have P5' := Lib.hid (P4'.out.own (b := w.heap.size) (by omega) 0 (.int .i64 4))
 have O5' := Lib.hid (O4'.out.own (b := w.heap.size) (by omega) 0 (.int .i64 4))
 have Br_5 : Hid (Bx _ _ _ #[.int .i64 4, .string ⟨#[]⟩, .slice none 0 0, .string ⟨#[]⟩, .string ⟨#[]⟩, .int .i64 0, .slice none 0 0]) := Br_4.out.set 0 (.int .i64 4)
 have Bx_5 := Lib.hid (Bx_4.out.other (c := w.heap.size) (i := 0) (u := .int .i64 4) (by omega))
 have P6' := Lib.hid (P5'.out.own (b := w.heap.size) (by omega) 1 (.string ⟨#[]⟩))
 have O6' := Lib.hid (O5'.out.own (b := w.heap.size) (by omega) 1 (.string ⟨#[]⟩))
 have Br_6 : Hid (Bx _ _ _ #[.int .i64 4, .string ⟨#[]⟩, .slice none 0 0, .string ⟨#[]⟩, .string ⟨#[]⟩, .int .i64 0, .slice none 0 0]) := Br_5.out.set 1 (.string ⟨#[]⟩)
 have Bx_6 := Lib.hid (Bx_5.out.other (c := w.heap.size) (i := 1) (u := .string ⟨#[]⟩) (by omega))
 have P7' := Lib.hid (P6'.out.own (b := w.heap.size) (by omega) 2 (.slice none 0 0))
 have O7' := Lib.hid (O6'.out.own (b := w.heap.size) (by omega) 2 (.slice none 0 0))
 have Br_7 : Hid (Bx _ _ _ #[.int .i64 4, .string ⟨#[]⟩, .slice none 0 0, .string ⟨#[]⟩, .string ⟨#[]⟩, .int .i64 0, .slice none 0 0]) := Br_6.out.set 2 (.slice none 0 0)
 have Bx_7 := Lib.hid (Bx_6.out.other (c := w.heap.size) (i := 2) (u := .slice none 0 0) (by omega))
 have P8' := Lib.hid (P7'.out.own (b := w.heap.size) (by omega) 3 (.string (ofL nm)))
 have O8' := Lib.hid (O7'.out.own (b := w.heap.size) (by omega) 3 (.string (ofL nm)))
 have Br_8 : Hid (Bx _ _ _ #[.int .i64 4, .string ⟨#[]⟩, .slice none 0 0, .string (ofL nm), .string ⟨#[]⟩, .int .i64 0, .slice none 0 0]) := Br_7.out.set 3 (.string (ofL nm))
 have Bx_8 := Lib.hid (Bx_7.out.other (c := w.heap.size) (i := 3) (u := .string (ofL nm)) (by omega))
 have P9' := Lib.hid (P8'.out.own (b := w.heap.size) (by omega) 4 (.string ⟨#[]⟩))
 have O9' := Lib.hid (O8'.out.own (b := w.heap.size) (by omega) 4 (.string ⟨#[]⟩))
 have Br_9 : Hid (Bx _ _ _ #[.int .i64 4, .string ⟨#[]⟩, .slice none 0 0, .string (ofL nm), .string ⟨#[]⟩, .int .i64 0, .slice none 0 0]) := Br_8.out.set 4 (.string ⟨#[]⟩)
 have Bx_9 := Lib.hid (Bx_8.out.other (c := w.heap.size) (i := 4) (u := .string ⟨#[]⟩) (by omega))
 have P10' := Lib.hid (P9'.out.own (b := w.heap.size) (by omega) 5 (.int .i64 0))
 have O10' := Lib.hid (O9'.out.own (b := w.heap.size) (by omega) 5 (.int .i64 0))
 have Br_10 : Hid (Bx _ _ _ #[.int .i64 4, .string ⟨#[]⟩, .slice none 0 0, .string (ofL nm), .string ⟨#[]⟩, .int .i64 0, .slice none 0 0]) := Br_9.out.set 5 (.int .i64 0)
 have Bx_10 := Lib.hid (Bx_9.out.other (c := w.heap.size) (i := 5) (u := .int .i64 0) (by omega))
 have P11' := Lib.hid (P10'.out.own (b := w.heap.size) (by omega) 6 (.slice none 0 0))
 have O11' := Lib.hid (O10'.out.own (b := w.heap.size) (by omega) 6 (.slice none 0 0))
 have Br_11 : Hid (Bx _ _ _ #[.int .i64 4, .string ⟨#[]⟩, .slice none 0 0, .string (ofL nm), .string ⟨#[]⟩, .int .i64 0, .slice none 0 0]) := Br_10.out.set 6 (.slice none 0 0)
 have Bx_11 := Lib.hid (Bx_10.out.other (c := w.heap.size) (i := 6) (u := .slice none 0 0) (by omega))
 refine bodyPost_ret (v := .agg #[.int .i64 4, .string ⟨#[]⟩, .slice none 0 0, .string (ofL nm), .string ⟨#[]⟩, .int .i64 0, .slice none 0 0]) (bx_ret Br_11.out Tryz.results228 _ rfl Tryz.underlying70 rfl (by kernel_rfl)) rfl ?_
 exact ⟨_, rfl, (LiesL.cons (.c _ rfl) (LiesL.cons (.c _ rfl) (LiesL.cons (.nil _) (LiesL.cons (.c _ rfl) (LiesL.cons (.c _ rfl) (LiesL.cons (.c _ rfl) (LiesL.cons (.nil _) (LiesL.nil _ _)))))))), P11'.out, O11'.out⟩
set_option maxRecDepth 20000 in
set_option maxHeartbeats 400000 in
theorem psend_any (h : Prs w g E s) : Calls Tryz.prog 231 #[.pointer (some ⟨g, 0, none⟩)] w (GotL w g E (sendP E s).2 (dIt (sendP E s).1)) := by
 have H := Lib.hid h
 have hlt := h.lt
 have HO := Lib.hid (Only.refl g w)
 obtain ⟨s1, hs1⟩ : ∃ s1, (wordP E s).2 = s1 := ⟨_, rfl⟩
 obtain ⟨fr, hv1⟩ : ∃ fr, (wordP E s).1 = fr := ⟨_, rfl⟩
 obtain ⟨s2, hs2⟩ : ∃ s2, (expectP E [45, 62] s1).2 = s2 := ⟨_, rfl⟩
 obtain ⟨s3, hs3⟩ : ∃ s3, (wordsP E s2).2 = s3 := ⟨_, rfl⟩
 obtain ⟨to, hv3⟩ : ∃ to, (wordsP E s2).1 = to := ⟨_, rfl⟩
 obtain ⟨s4, hs4⟩ : ∃ s4, (expectP E [58] s3).2 = s4 := ⟨_, rfl⟩
 obtain ⟨s5, hs5⟩ : ∃ s5, (pathP E s4).2 = s5 := ⟨_, rfl⟩
 obtain ⟨nm, hv5⟩ : ∃ nm, (pathP E s4).1 = nm := ⟨_, rfl⟩
 obtain ⟨s6, hs6⟩ : ∃ s6, (expectP E [59] s5).2 = s6 := ⟨_, rfl⟩
 have HR := Lib.hid (show sendP E s = (It.mk 1 fr to nm [] 0 [], s6) by subst hs1; subst hv1; subst hs2; subst hs3; subst hv3; subst hs4; subst hs5; subst hv5; subst hs6;  rfl)
 rw [HR.out]
 have HS1 := Lib.hid hs1
 have HV1 := Lib.hid hv1
 have HS2 := Lib.hid hs2
 have HS3 := Lib.hid hs3
 have HV3 := Lib.hid hv3
 have HS4 := Lib.hid hs4
 have HS5 := Lib.hid hs5
 have HV5 := Lib.hid hv5
 have HS6 := Lib.hid hs6
 clear hs1 hv1 hs2 hs3 hv3 hs4 hs5 hv5 hs6
 clear h
 go_enter Tryz.func231, Tryz.ntmps231
 have P1' : Hid (Prs ((w).alloc oSynA0) g E _) := H.out.alloc _
 have O1' : Hid (Only g w ((w).alloc oSynA0)) := HO.out.alloc _
 have Br_1 : Hid (Bx ((w).alloc oSynA0) (w.heap.size) 70 #[.int .i64 0, .string ⟨#[]⟩, .slice none 0 0, .string ⟨#[]⟩, .string ⟨#[]⟩, .int .i64 0, .slice none 0 0]) := Bx.new2 (rfl)
 go_wp2_with fail
 refine (pword_any P1'.out).mono ?_; rintro e w2 ⟨rfl, P2, O2⟩
 rw [HS1.out] at P2
 rw [HV1.out]
 have P2' := Lib.hid P2
 have O2' := Lib.hid (O1'.out.trans O2)
 have Br_2 := Lib.hid (Br_1.out.only O2 (by omega))
 have hz2 : w.heap.size + 1 ≤ w2.heap.size := by have := O2.size; simp only [size_alloc] at this; exact this
 clear P2 O2
 have P3' : Hid (Prs ((w2).alloc (.cells #[.int .i64 1, .string (ofL fr), .slice none 0 0, .string ⟨#[]⟩, .string ⟨#[]⟩, .int .i64 0, .slice none 0 0] 70)) g E _) := P2'.out.alloc _
 have O3' : Hid (Only g w ((w2).alloc (.cells #[.int .i64 1, .string (ofL fr), .slice none 0 0, .string ⟨#[]⟩, .string ⟨#[]⟩, .int .i64 0, .slice none 0 0] 70))) := O2'.out.alloc _
 have Br_3 : Hid (Bx ((w2).alloc (.cells #[.int .i64 1, .string (ofL fr), .slice none 0 0, .string ⟨#[]⟩, .string ⟨#[]⟩, .int .i64 0, .slice none 0 0] 70)) (w.heap.size) _ _) := Br_2.out.alloc _
 have Bx_3 : Hid (Bx ((w2).alloc (.cells #[.int .i64 1, .string (ofL fr), .slice none 0 0, .string ⟨#[]⟩, .string ⟨#[]⟩, .int .i64 0, .slice none 0 0] 70)) (w2.heap.size) 70 #[.int .i64 1, .string (ofL fr), .slice none 0 0, .string ⟨#[]⟩, .string ⟨#[]⟩, .int .i64 0, .slice none 0 0]) := Bx.new2 (rfl)
 go_wp2_with fail
 refine (pexpect_any P3'.out [45, 62]).mono ?_; rintro e w4 ⟨rfl, P4, O4⟩
 rw [HS2.out] at P4
 have P4' := Lib.hid P4
 have O4' := Lib.hid (O3'.out.trans O4)
 have Br_4 := Lib.hid (Br_3.out.only O4 (by omega))
 have Bx_4 := Lib.hid (Bx_3.out.only O4 (by omega))
 have hz4 : w2.heap.size + 1 ≤ w4.heap.size := by have := O4.size; simp only [size_alloc] at this; exact this
 clear P4 O4
 obtain ⟨cr_0, cr_1, cr_2, cr_3, cr_4, cr_5, cr_6⟩ := Br_4.out.k7
 obtain ⟨fr_0, fr_1, fr_2, fr_3, fr_4, fr_5, fr_6⟩ := Br_4.out.f7
 obtain ⟨cx_0, cx_1, cx_2, cx_3, cx_4, cx_5, cx_6⟩ := Bx_4.out.k7
 obtain ⟨fx_0, fx_1, fx_2, fx_3, fx_4, fx_5, fx_6⟩ := Bx_4.out.f7
 go_wp2_with fail
 refine (pwords_any P4'.out).mono ?_; rintro e w5 ⟨v, rfl, LV, P5, O5⟩
 obtain ⟨ATO, nTO, cTO, rfl, -⟩ := LV.slc
 rw [HV3.out] at LV
 rw [HS3.out] at P5
 have LTO_5 := Lib.hid (show Lies w5 (fun k => w4.heap.size ≤ k) (.slice ATO nTO cTO) (dL to) from LV)
 have P5' := Lib.hid P5
 have O5' := Lib.hid (O4'.out.trans O5)
 have Br_5 := Lib.hid (Br_4.out.only O5 (by omega))
 have Bx_5 := Lib.hid (Bx_4.out.only O5 (by omega))
 have hz5 : w4.heap.size ≤ w5.heap.size := O5.size
 clear P5 O5 LV
 clear cr_0 fr_0 cr_1 fr_1 cr_2 fr_2 cr_3 fr_3 cr_4 fr_4 cr_5 fr_5 cr_6 fr_6 cx_0 fx_0 cx_1 fx_1 cx_2 fx_2 cx_3 fx_3 cx_4 fx_4 cx_5 fx_5 cx_6 fx_6
 obtain ⟨cr_0, cr_1, cr_2, cr_3, cr_4, cr_5, cr_6⟩ := Br_5.out.k7
 obtain ⟨fr_0, fr_1, fr_2, fr_3, fr_4, fr_5, fr_6⟩ := Br_5.out.f7
 obtain ⟨cx_0, cx_1, cx_2, cx_3, cx_4, cx_5, cx_6⟩ := Bx_5.out.k7
 obtain ⟨fx_0, fx_1, fx_2, fx_3, fx_4, fx_5, fx_6⟩ := Bx_5.out.f7
 have P6' := Lib.hid (P5'.out.own (b := w2.heap.size) (by omega) 2 (.slice ATO nTO cTO))
 have O6' := Lib.hid (O5'.out.own (b := w2.heap.size) (by omega) 2 (.slice ATO nTO cTO))
 have Br_6 := Lib.hid (Br_5.out.other (c := w2.heap.size) (i := 2) (u := .slice ATO nTO cTO) (by omega))
 have Bx_6 : Hid (Bx _ _ _ #[.int .i64 1, .string (ofL fr), .slice ATO nTO cTO, .string ⟨#[]⟩, .string ⟨#[]⟩, .int .i64 0, .slice none 0 0]) := Bx_5.out.set 2 (.slice ATO nTO cTO)
 have LTO_6 := Lib.hid (LTO_5.out.set (b := w2.heap.size) (i := 2) (u := .slice ATO nTO cTO) (by omega))
 go_wp2_with fail
 refine (pexpect_any P6'.out [58]).mono ?_; rintro e w7 ⟨rfl, P7, O7⟩
 rw [HS4.out] at P7
 have P7' := Lib.hid P7
 have O7' := Lib.hid (O6'.out.trans O7)
 have Br_7 := Lib.hid (Br_6.out.only O7 (by omega))
 have Bx_7 := Lib.hid (Bx_6.out.only O7 (by omega))
 have LTO_7 := Lib.hid (LTO_6.out.only O7 (by omega))
 have hz7 : w5.heap.size ≤ w7.heap.size := by have := O7.size; simp only [size_set] at this; exact this
 clear P7 O7
 clear cr_0 fr_0 cr_1 fr_1 cr_2 fr_2 cr_3 fr_3 cr_4 fr_4 cr_5 fr_5 cr_6 fr_6 cx_0 fx_0 cx_1 fx_1 cx_2 fx_2 cx_3 fx_3 cx_4 fx_4 cx_5 fx_5 cx_6 fx_6
 obtain ⟨cr_0, cr_1, cr_2, cr_3, cr_4, cr_5, cr_6⟩ := Br_7.out.k7
 obtain ⟨fr_0, fr_1, fr_2, fr_3, fr_4, fr_5, fr_6⟩ := Br_7.out.f7
 obtain ⟨cx_0, cx_1, cx_2, cx_3, cx_4, cx_5, cx_6⟩ := Bx_7.out.k7
 obtain ⟨fx_0, fx_1, fx_2, fx_3, fx_4, fx_5, fx_6⟩ := Bx_7.out.f7
 go_wp2_with fail
 refine (ppath_any P7'.out).mono ?_; rintro e w8 ⟨rfl, P8, O8⟩
 rw [HS5.out] at P8
 rw [HV5.out]
 have P8' := Lib.hid P8
 have O8' := Lib.hid (O7'.out.trans O8)
 have Br_8 := Lib.hid (Br_7.out.only O8 (by omega))
 have Bx_8 := Lib.hid (Bx_7.out.only O8 (by omega))
 have LTO_8 := Lib.hid (LTO_7.out.only O8 (by omega))
 have hz8 : w7.heap.size ≤ w8.heap.size := O8.size
 clear P8 O8
 clear cr_0 fr_0 cr_1 fr_1 cr_2 fr_2 cr_3 fr_3 cr_4 fr_4 cr_5 fr_5 cr_6 fr_6 cx_0 fx_0 cx_1 fx_1 cx_2 fx_2 cx_3 fx_3 cx_4 fx_4 cx_5 fx_5 cx_6 fx_6
 obtain ⟨cr_0, cr_1, cr_2, cr_3, cr_4, cr_5, cr_6⟩ := Br_8.out.k7
 obtain ⟨fr_0, fr_1, fr_2, fr_3, fr_4, fr_5, fr_6⟩ := Br_8.out.f7
 obtain ⟨cx_0, cx_1, cx_2, cx_3, cx_4, cx_5, cx_6⟩ := Bx_8.out.k7
 obtain ⟨fx_0, fx_1, fx_2, fx_3, fx_4, fx_5, fx_6⟩ := Bx_8.out.f7
 have P9' := Lib.hid (P8'.out.own (b := w2.heap.size) (by omega) 3 (.string (ofL nm)))
 have O9' := Lib.hid (O8'.out.own (b := w2.heap.size) (by omega) 3 (.string (ofL nm)))
 have Br_9 := Lib.hid (Br_8.out.other (c := w2.heap.size) (i := 3) (u := .string (ofL nm)) (by omega))
 have Bx_9 : Hid (Bx _ _ _ #[.int .i64 1, .string (ofL fr), .slice ATO nTO cTO, .string (ofL nm), .string ⟨#[]⟩, .int .i64 0, .slice none 0 0]) := Bx_8.out.set 3 (.string (ofL nm))
 have LTO_9 := Lib.hid (LTO_8.out.set (b := w2.heap.size) (i := 3) (u := .string (ofL nm)) (by omega))
 go_wp2_with fail
 refine (pexpect_any P9'.out [59]).mono ?_; rintro e w10 ⟨rfl, P10, O10⟩
 rw [HS6.out] at P10
 have P10' := Lib.hid P10
 have O10' := Lib.hid (O9'.out.trans O10)
 have Br_10 := Lib.hid (Br_9.out.only O10 (by omega))
 have Bx_10 := Lib.hid (Bx_9.out.only O10 (by omega))
 have LTO_10 := Lib.hid (LTO_9.out.only O10 (by omega))
 have hz10 : w8.heap.size ≤ w10.heap.size := by have := O10.size; simp only [size_set] at this; exact this
 clear P10 O10
 clear cr_0 fr_0 cr_1 fr_1 cr_2 fr_2 cr_3 fr_3 cr_4 fr_4 cr_5 fr_5 cr_6 fr_6 cx_0 fx_0 cx_1 fx_1 cx_2 fx_2 cx_3 fx_3 cx_4 fx_4 cx_5 fx_5 cx_6 fx_6
 obtain ⟨cr_0, cr_1, cr_2, cr_3, cr_4, cr_5, cr_6⟩ := Br_10.out.k7
 obtain ⟨fr_0, fr_1, fr_2, fr_3, fr_4, fr_5, fr_6⟩ := Br_10.out.f7
 obtain ⟨cx_0, cx_1, cx_2, cx_3, cx_4, cx_5, cx_6⟩ := Bx_10.out.k7
 obtain ⟨fx_0, fx_1, fx_2, fx_3, fx_4, fx_5, fx_6⟩ := Bx_10.out.f7
 go_wp2_with fail
 have P11' := Lib.hid (P10'.out.own (b := w.heap.size) (by omega) 0 (.int .i64 1))
 have O11' := Lib.hid (O10'.out.own (b := w.heap.size) (by omega) 0 (.int .i64 1))
 have Br_11 : Hid (Bx _ _ _ #[.int .i64 1, .string ⟨#[]⟩, .slice none 0 0, .string ⟨#[]⟩, .string ⟨#[]⟩, .int .i64 0, .slice none 0 0]) := Br_10.out.set 0 (.int .i64 1)
 have Bx_11 := Lib.hid (Bx_10.out.other (c := w.heap.size) (i := 0) (u := .int .i64 1) (by omega))
 have LTO_11 := Lib.hid (LTO_10.out.set (b := w.heap.size) (i := 0) (u := .int .i64 1) (by omega))
 have P12' := Lib.hid (P11'.out.own (b := w.heap.size) (by omega) 1 (.string (ofL fr)))
 have O12' := Lib.hid (O11'.out.own (b := w.heap.size) (by omega) 1 (.string (ofL fr)))
 have Br_12 : Hid (Bx _ _ _ #[.int .i64 1, .string (ofL fr), .slice none 0 0, .string ⟨#[]⟩, .string ⟨#[]⟩, .int .i64 0, .slice none 0 0]) := Br_11.out.set 1 (.string (ofL fr))
 have Bx_12 := Lib.hid (Bx_11.out.other (c := w.heap.size) (i := 1) (u := .string (ofL fr)) (by omega))
 have LTO_12 := Lib.hid (LTO_11.out.set (b := w.heap.size) (i := 1) (u := .string (ofL fr)) (by omega))
 have P13' := Lib.hid (P12'.out.own (b := w.heap.size) (by omega) 2 (.slice ATO nTO cTO))
 have O13' := Lib.hid (O12'.out.own (b := w.heap.size) (by omega) 2 (.slice ATO nTO cTO))
 have Br_13 : Hid (Bx _ _ _ #[.int .i64 1, .string (ofL fr), .slice ATO nTO cTO, .string ⟨#[]⟩, .string ⟨#[]⟩, .int .i64 0, .slice none 0 0]) := Br_12.out.set 2 (.slice ATO nTO cTO)
 have Bx_13 := Lib.hid (Bx_12.out.other (c := w.heap.size) (i := 2) (u := .slice ATO nTO cTO) (by omega))
 have LTO_13 := Lib.hid (LTO_12.out.set (b := w.heap.size) (i := 2) (u := .slice ATO nTO cTO) (by omega))
 have P14' := Lib.hid (P13'.out.own (b := w.heap.size) (by omega) 3 (.string (ofL nm)))
 have O14' := Lib.hid (O13'.out.own (b := w.heap.size) (by omega) 3 (.string (ofL nm)))
 have Br_14 : Hid (Bx _ _ _ #[.int .i64 1, .string (ofL fr), .slice ATO nTO cTO, .string (ofL nm), .string ⟨#[]⟩, .int .i64 0, .slice none 0 0]) := Br_13.out.set 3 (.string (ofL nm))
 have Bx_14 := Lib.hid (Bx_13.out.other (c := w.heap.size) (i := 3) (u := .string (ofL nm)) (by omega))
 have LTO_14 := Lib.hid (LTO_13.out.set (b := w.heap.size) (i := 3) (u := .string (ofL nm)) (by omega))
 have P15' := Lib.hid (P14'.out.own (b := w.heap.size) (by omega) 4 (.string ⟨#[]⟩))
 have O15' := Lib.hid (O14'.out.own (b := w.heap.size) (by omega) 4 (.string ⟨#[]⟩))
 have Br_15 : Hid (Bx _ _ _ #[.int .i64 1, .string (ofL fr), .slice ATO nTO cTO, .string (ofL nm), .string ⟨#[]⟩, .int .i64 0, .slice none 0 0]) := Br_14.out.set 4 (.string ⟨#[]⟩)
 have Bx_15 := Lib.hid (Bx_14.out.other (c := w.heap.size) (i := 4) (u := .string ⟨#[]⟩) (by omega))
 have LTO_15 := Lib.hid (LTO_14.out.set (b := w.heap.size) (i := 4) (u := .string ⟨#[]⟩) (by omega))
 have P16' := Lib.hid (P15'.out.own (b := w.heap.size) (by omega) 5 (.int .i64 0))
 have O16' := Lib.hid (O15'.out.own (b := w.heap.size) (by omega) 5 (.int .i64 0))
 have Br_16 : Hid (Bx _ _ _ #[.int .i64 1, .string (ofL fr), .slice ATO nTO cTO, .string (ofL nm), .string ⟨#[]⟩, .int .i64 0, .slice none 0 0]) := Br_15.out.set 5 (.int .i64 0)
 have Bx_16 := Lib.hid (Bx_15.out.other (c := w.heap.size) (i := 5) (u := .int .i64 0) (by omega))
 have LTO_16 := Lib.hid (LTO_15.out.set (b := w.heap.size) (i := 5) (u := .int .i64 0) (by omega))
 have P17' := Lib.hid (P16'.out.own (b := w.heap.size) (by omega) 6 (.slice none 0 0))
 have O17' := Lib.hid (O16'.out.own (b := w.heap.size) (by omega) 6 (.slice none 0 0))
 have Br_17 : Hid (Bx _ _ _ #[.int .i64 1, .string (ofL fr), .slice ATO nTO cTO, .string (ofL nm), .string ⟨#[]⟩, .int .i64 0, .slice none 0 0]) := Br_16.out.set 6 (.slice none 0 0)
 have Bx_17 := Lib.hid (Bx_16.out.other (c := w.heap.size) (i := 6) (u := .slice none 0 0) (by omega))
 have LTO_17 := Lib.hid (LTO_16.out.set (b := w.heap.size) (i := 6) (u := .slice none 0 0) (by omega))
 refine bodyPost_ret (v := .agg #[.int .i64 1, .string (ofL fr), .slice ATO nTO cTO, .string (ofL nm), .string ⟨#[]⟩, .int .i64 0, .slice none 0 0]) (bx_ret Br_17.out Tryz.results231 _ rfl Tryz.underlying70 rfl (by kernel_rfl)) rfl ?_
 exact ⟨_, rfl, (LiesL.cons (.c _ rfl) (LiesL.cons (.c _ rfl) (LiesL.cons (LTO_17.out.from (by omega)) (LiesL.cons (.c _ rfl) (LiesL.cons (.c _ rfl) (LiesL.cons (.c _ rfl) (LiesL.cons (.nil _) (LiesL.nil _ _)))))))), P17'.out, O17'.out⟩
set_option maxRecDepth 20000 in
set_option maxHeartbeats 400000 in
theorem pcall_any (h : Prs w g E s) : Calls Tryz.prog 230 #[.pointer (some ⟨g, 0, none⟩)] w (GotL w g E (callP E s).2 (dIt (callP E s).1)) := by
 have H := Lib.hid h
 have hlt := h.lt
 have HO := Lib.hid (Only.refl g w)
 obtain ⟨s1, hs1⟩ : ∃ s1, (wordP E s).2 = s1 := ⟨_, rfl⟩
 obtain ⟨nm, hv1⟩ : ∃ nm, (wordP E s).1 = nm := ⟨_, rfl⟩
 obtain ⟨s2, hs2⟩ : ∃ s2, (expectP E [40] s1).2 = s2 := ⟨_, rfl⟩
 obtain ⟨s3, hs3⟩ : ∃ s3, (wordsP E s2).2 = s3 := ⟨_, rfl⟩
 obtain ⟨to, hv3⟩ : ∃ to, (wordsP E s2).1 = to := ⟨_, rfl⟩
 obtain ⟨s4, hs4⟩ : ∃ s4, (expectP E [41] s3).2 = s4 := ⟨_, rfl⟩
 obtain ⟨s5, hs5⟩ : ∃ s5, (expectP E [97, 115] s4).2 = s5 := ⟨_, rfl⟩
 obtain ⟨s6, hs6⟩ : ∃ s6, (wordP E s5).2 = s6 := ⟨_, rfl⟩
 obtain ⟨al, hv6⟩ : ∃ al, (wordP E s5).1 = al := ⟨_, rfl⟩
 obtain ⟨s7, hs7⟩ : ∃ s7, (expectP E [59] s6).2 = s7 := ⟨_, rfl⟩
 have HR := Lib.hid (show callP E s = (It.mk 6 [] to nm al 0 [], s7) by subst hs1; subst hv1; subst hs2; subst hs3; subst hv3; subst hs4; subst hs5; subst hs6; subst hv6; subst hs7;  rfl)
 rw [HR.out]
 have HS1 := Lib.hid hs1
 have HV1 := Lib.hid hv1
 have HS2 := Lib.hid hs2
 have HS3 := Lib.hid hs3
 have HV3 := Lib.hid hv3
 have HS4 := Lib.hid hs4
 have HS5 := Lib.hid hs5
 have HS6 := Lib.hid hs6
 have HV6 := Lib.hid hv6
 have HS7 := Lib.hid hs7
 clear hs1 hv1 hs2 hs3 hv3 hs4 hs5 hs6 hv6 hs7
 clear h
 go_enter Tryz.func230, Tryz.ntmps230
 have P1' : Hid (Prs ((w).alloc oSynA0) g E _) := H.out.alloc _
 have O1' : Hid (Only g w ((w).alloc oSynA0)) := HO.out.alloc _
 have Br_1 : Hid (Bx ((w).alloc oSynA0) (w.heap.size) 70 #[.int .i64 0, .string ⟨#[]⟩, .slice none 0 0, .string ⟨#[]⟩, .string ⟨#[]⟩, .int .i64 0, .slice none 0 0]) := Bx.new2 (rfl)
 go_wp2_with fail
 refine (pword_any P1'.out).mono ?_; rintro e w2 ⟨rfl, P2, O2⟩
 rw [HS1.out] at P2
 rw [HV1.out]
 have P2' := Lib.hid P2
 have O2' := Lib.hid (O1'.out.trans O2)
 have Br_2 := Lib.hid (Br_1.out.only O2 (by omega))
 have hz2 : w.heap.size + 1 ≤ w2.heap.size := by have := O2.size; simp only [size_alloc] at this; exact this
 clear P2 O2
 have P3' : Hid (Prs ((w2).alloc (.cells #[.int .i64 6, .string ⟨#[]⟩, .slice none 0 0, .string (ofL nm), .string ⟨#[]⟩, .int .i64 0, .slice none 0 0] 70)) g E _) := P2'.out.alloc _
 have O3' : Hid (Only g w ((w2).alloc (.cells #[.int .i64 6, .string ⟨#[]⟩, .slice none 0 0, .string (ofL nm), .string ⟨#[]⟩, .int .i64 0, .slice none 0 0] 70))) := O2'.out.alloc _
 have Br_3 : Hid (Bx ((w2).alloc (.cells #[.int .i64 6, .string ⟨#[]⟩, .slice none 0 0, .string (ofL nm), .string ⟨#[]⟩, .int .i64 0, .slice none 0 0] 70)) (w.heap.size) _ _) := Br_2.out.alloc _
 have Bx_3 : Hid (Bx ((w2).alloc (.cells #[.int .i64 6, .string ⟨#[]⟩, .slice none 0 0, .string (ofL nm), .string ⟨#[]⟩, .int .i64 0, .slice none 0 0] 70)) (w2.heap.size) 70 #[.int .i64 6, .string ⟨#[]⟩, .slice none 0 0, .string (ofL nm), .string ⟨#[]⟩, .int .i64 0, .slice none 0 0]) := Bx.new2 (rfl)
 go_wp2_with fail
 refine (pexpect_any P3'.out [40]).mono ?_; rintro e w4 ⟨rfl, P4, O4⟩
 rw [HS2.out] at P4
 have P4' := Lib.hid P4
 have O4' := Lib.hid (O3'.out.trans O4)
 have Br_4 := Lib.hid (Br_3.out.only O4 (by omega))
 have Bx_4 := Lib.hid (Bx_3.out.only O4 (by omega))
 have hz4 : w2.heap.size + 1 ≤ w4.heap.size := by have := O4.size; simp only [size_alloc] at this; exact this
 clear P4 O4
 obtain ⟨cr_0, cr_1, cr_2, cr_3, cr_4, cr_5, cr_6⟩ := Br_4.out.k7
 obtain ⟨fr_0, fr_1, fr_2, fr_3, fr_4, fr_5, fr_6⟩ := Br_4.out.f7
 obtain ⟨cx_0, cx_1, cx_2, cx_3, cx_4, cx_5, cx_6⟩ := Bx_4.out.k7
 obtain ⟨fx_0, fx_1, fx_2, fx_3, fx_4, fx_5, fx_6⟩ := Bx_4.out.f7
 go_wp2_with fail
 refine (pwords_any P4'.out).mono ?_; rintro e w5 ⟨v, rfl, LV, P5, O5⟩
 obtain ⟨ATO, nTO, cTO, rfl, -⟩ := LV.slc
 rw [HV3.out] at LV
 rw [HS3.out] at P5
 have LTO_5 := Lib.hid (show Lies w5 (fun k => w4.heap.size ≤ k) (.slice ATO nTO cTO) (dL to) from LV)
 have P5' := Lib.hid P5
 have O5' := Lib.hid (O4'.out.trans O5)
 have Br_5 := Lib.hid (Br_4.out.only O5 (by omega))
 have Bx_5 := Lib.hid (Bx_4.out.only O5 (by omega))
 have hz5 : w4.heap.size ≤ w5.heap.size := O5.size
 clear P5 O5 LV
 clear cr_0 fr_0 cr_1 fr_1 cr_2 fr_2 cr_3 fr_3 cr_4 fr_4 cr_5 fr_5 cr_6 fr_6 cx_0 fx_0 cx_1 fx_1 cx_2 fx_2 cx_3 fx_3 cx_4 fx_4 cx_5 fx_5 cx_6 fx_6
 obtain ⟨cr_0, cr_1, cr_2, cr_3, cr_4, cr_5, cr_6⟩ := Br_5.out.k7
 obtain ⟨fr_0, fr_1, fr_2, fr_3, fr_4, fr_5, fr_6⟩ := Br_5.out.f7
 obtain ⟨cx_0, cx_1, cx_2, cx_3, cx_4, cx_5, cx_6⟩ := Bx_5.out.k7
 obtain ⟨fx_0, fx_1, fx_2, fx_3, fx_4, fx_5, fx_6⟩ := Bx_5.out.f7
 have P6' := Lib.hid (P5'.out.own (b := w2.heap.size) (by omega) 2 (.slice ATO nTO cTO))
 have O6' := Lib.hid (O5'.out.own (b := w2.heap.size) (by omega) 2 (.slice ATO nTO cTO))
 have Br_6 := Lib.hid (Br_5.out.other (c := w2.heap.size) (i := 2) (u := .slice ATO nTO cTO) (by omega))
 have Bx_6 : Hid (Bx _ _ _ #[.int .i64 6, .string ⟨#[]⟩, .slice ATO nTO cTO, .string (ofL nm), .string ⟨#[]⟩, .int .i64 0, .slice none 0 0]) := Bx_5.out.set 2 (.slice ATO nTO cTO)
 have LTO_6 := Lib.hid (LTO_5.out.set (b := w2.heap.size) (i := 2) (u := .slice ATO nTO cTO) (by omega))
 go_wp2_with fail
 refine (pexpect_any P6'.out [41]).mono ?_; rintro e w7 ⟨rfl, P7, O7⟩
 rw [HS4.out] at P7
 have P7' := Lib.hid P7
 have O7' := Lib.hid (O6'.out.trans O7)
 have Br_7 := Lib.hid (Br_6.out.only O7 (by omega))
 have Bx_7 := Lib.hid (Bx_6.out.only O7 (by omega))
 have LTO_7 := Lib.hid (LTO_6.out.only O7 (by omega))
 have hz7 : w5.heap.size ≤ w7.heap.size := by have := O7.size; simp only [size_set] at this; exact this
 clear P7 O7
 clear cr_0 fr_0 cr_1 fr_1 cr_2 fr_2 cr_3 fr_3 cr_4 fr_4 cr_5 fr_5 cr_6 fr_6 cx_0 fx_0 cx_1 fx_1 cx_2 fx_2 cx_3 fx_3 cx_4 fx_4 cx_5 fx_5 cx_6 fx_6
 obtain ⟨cr_0, cr_1, cr_2, cr_3, cr_4, cr_5, cr_6⟩ := Br_7.out.k7
 obtain ⟨fr_0, fr_1, fr_2, fr_3, fr_4, fr_5, fr_6⟩ := Br_7.out.f7
 obtain ⟨cx_0, cx_1, cx_2, cx_3, cx_4, cx_5, cx_6⟩ := Bx_7.out.k7
 obtain ⟨fx_0, fx_1, fx_2, fx_3, fx_4, fx_5, fx_6⟩ := Bx_7.out.f7
 go_wp2_with fail
 refine (pexpect_any P7'.out [97, 115]).mono ?_; rintro e w8 ⟨rfl, P8, O8⟩
 rw [HS5.out] at P8
 have P8' := Lib.hid P8
 have O8' := Lib.hid (O7'.out.trans O8)
 have Br_8 := Lib.hid (Br_7.out.only O8 (by omega))
 have Bx_8 := Lib.hid (Bx_7.out.only O8 (by omega))
 have LTO_8 := Lib.hid (LTO_7.out.only O8 (by omega))
 have hz8 : w7.heap.size ≤ w8.heap.size := O8.size
 clear P8 O8
 clear cr_0 fr_0 cr_1 fr_1 cr_2 fr_2 cr_3 fr_3 cr_4 fr_4 cr_5 fr_5 cr_6 fr_6 cx_0 fx_0 cx_1 fx_1 cx_2 fx_2 cx_3 fx_3 cx_4 fx_4 cx_5 fx_5 cx_6 fx_6
 obtain ⟨cr_0, cr_1, cr_2, cr_3, cr_4, cr_5, cr_6⟩ := Br_8.out.k7
 obtain ⟨fr_0, fr_1, fr_2, fr_3, fr_4, fr_5, fr_6⟩ := Br_8.out.f7
 obtain ⟨cx_0, cx_1, cx_2, cx_3, cx_4, cx_5, cx_6⟩ := Bx_8.out.k7
 obtain ⟨fx_0, fx_1, fx_2, fx_3, fx_4, fx_5, fx_6⟩ := Bx_8.out.f7
 go_wp2_with fail
 refine (pword_any P8'.out).mono ?_; rintro e w9 ⟨rfl, P9, O9⟩
 rw [HS6.out] at P9
 rw [HV6.out]
 have P9' := Lib.hid P9
 have O9' := Lib.hid (O8'.out.trans O9)
 have Br_9 := Lib.hid (Br_8.out.only O9 (by omega))
 have Bx_9 := Lib.hid (Bx_8.out.only O9 (by omega))
 have LTO_9 := Lib.hid (LTO_8.out.only O9 (by omega))
 have hz9 : w8.heap.size ≤ w9.heap.size := O9.size
 clear P9 O9
 clear cr_0 fr_0 cr_1 fr_1 cr_2 fr_2 cr_3 fr_3 cr_4 fr_4 cr_5 fr_5 cr_6 fr_6 cx_0 fx_0 cx_1 fx_1 cx_2 fx_2 cx_3 fx_3 cx_4 fx_4 cx_5 fx_5 cx_6 fx_6
 obtain ⟨cr_0, cr_1, cr_2, cr_3, cr_4, cr_5, cr_6⟩ := Br_9.out.k7
 obtain ⟨fr_0, fr_1, fr_2, fr_3, fr_4, fr_5, fr_6⟩ := Br_9.out.f7
 obtain ⟨cx_0, cx_1, cx_2, cx_3, cx_4, cx_5, cx_6⟩ := Bx_9.out.k7
 obtain ⟨fx_0, fx_1, fx_2, fx_3, fx_4, fx_5, fx_6⟩ := Bx_9.out.f7
 have P10' := Lib.hid (P9'.out.own (b := w2.heap.size) (by omega) 4 (.string (ofL al)))
 have O10' := Lib.hid (O9'.out.own (b := w2.heap.size) (by omega) 4 (.string (ofL al)))
 have Br_10 := Lib.hid (Br_9.out.other (c := w2.heap.size) (i := 4) (u := .string (ofL al)) (by omega))
 have Bx_10 : Hid (Bx _ _ _ #[.int .i64 6, .string ⟨#[]⟩, .slice ATO nTO cTO, .string (ofL nm), .string (ofL al), .int .i64 0, .slice none 0 0]) := Bx_9.out.set 4 (.string (ofL al))
 have LTO_10 := Lib.hid (LTO_9.out.set (b := w2.heap.size) (i := 4) (u := .string (ofL al)) (by omega))
 go_wp2_with fail
 refine (pexpect_any P10'.out [59]).mono ?_; rintro e w11 ⟨rfl, P11, O11⟩
 rw [HS7.out] at P11
 have P11' := Lib.hid P11
 have O11' := Lib.hid (O10'.out.trans O11)
 have Br_11 := Lib.hid (Br_10.out.only O11 (by omega))
 have Bx_11 := Lib.hid (Bx_10.out.only O11 (by omega))
 have LTO_11 := Lib.hid (LTO_10.out.only O11 (by omega))
 have hz11 : w9.heap.size ≤ w11.heap.size := by have := O11.size; simp only [size_set] at this; exact this
 clear P11 O11
 clear cr_0 fr_0 cr_1 fr_1 cr_2 fr_2 cr_3 fr_3 cr_4 fr_4 cr_5 fr_5 cr_6 fr_6 cx_0 fx_0 cx_1 fx_1 cx_2 fx_2 cx_3 fx_3 cx_4 fx_4 cx_5 fx_5 cx_6 fx_6
 obtain ⟨cr_0, cr_1, cr_2, cr_3, cr_4, cr_5, cr_6⟩ := Br_11.out.k7
 obtain ⟨fr_0, fr_1, fr_2, fr_3, fr_4, fr_5, fr_6⟩ := Br_11.out.f7
 obtain ⟨cx_0, cx_1, cx_2, cx_3, cx_4, cx_5, cx_6⟩ := Bx_11.out.k7
 obtain ⟨fx_0, fx_1, fx_2, fx_3, fx_4, fx_5, fx_6⟩ := Bx_11.out.f7
 go_wp2_with fail
 have P12' := Lib.hid (P11'.out.own (b := w.heap.size) (by omega) 0 (.int .i64 6))
 have O12' := Lib.hid (O11'.out.own (b := w.heap.size) (by omega) 0 (.int .i64 6))
 have Br_12 : Hid (Bx _ _ _ #[.int .i64 6, .string ⟨#[]⟩, .slice none 0 0, .string ⟨#[]⟩, .string ⟨#[]⟩, .int .i64 0, .slice none 0 0]) := Br_11.out.set 0 (.int .i64 6)
 have Bx_12 := Lib.hid (Bx_11.out.other (c := w.heap.size) (i := 0) (u := .int .i64 6) (by omega))
 have LTO_12 := Lib.hid (LTO_11.out.set (b := w.heap.size) (i := 0) (u := .int .i64 6) (by omega))
 have P13' := Lib.hid (P12'.out.own (b := w.heap.size) (by omega) 1 (.string ⟨#[]⟩))
 have O13' := Lib.hid (O12'.out.own (b := w.heap.size) (by omega) 1 (.string ⟨#[]⟩))
 have Br_13 : Hid (Bx _ _ _ #[.int .i64 6, .string ⟨#[]⟩, .slice none 0 0, .string ⟨#[]⟩, .string ⟨#[]⟩, .int .i64 0, .slice none 0 0]) := Br_12.out.set 1 (.string ⟨#[]⟩)
 have Bx_13 := Lib.hid (Bx_12.out.other (c := w.heap.size) (i := 1) (u := .string ⟨#[]⟩) (by omega))
 have LTO_13 := Lib.hid (LTO_12.out.set (b := w.heap.size) (i := 1) (u := .string ⟨#[]⟩) (by omega))
 have P14' := Lib.hid (P13'.out.own (b := w.heap.size) (by omega) 2 (.slice ATO nTO cTO))
 have O14' := Lib.hid (O13'.out.own (b := w.heap.size) (by omega) 2 (.slice ATO nTO cTO))
 have Br_14 : Hid (Bx _ _ _ #[.int .i64 6, .string ⟨#[]⟩, .slice ATO nTO cTO, .string ⟨#[]⟩, .string ⟨#[]⟩, .int .i64 0, .slice none 0 0]) := Br_13.out.set 2 (.slice ATO nTO cTO)
 have Bx_14 := Lib.hid (Bx_13.out.other (c := w.heap.size) (i := 2) (u := .slice ATO nTO cTO) (by omega))
 have LTO_14 := Lib.hid (LTO_13.out.set (b := w.heap.size) (i := 2) (u := .slice ATO nTO cTO) (by omega))
 have P15' := Lib.hid (P14'.out.own (b := w.heap.size) (by omega) 3 (.string (ofL nm)))
 have O15' := Lib.hid (O14'.out.own (b := w.heap.size) (by omega) 3 (.string (ofL nm)))
 have Br_15 : Hid (Bx _ _ _ #[.int .i64 6, .string ⟨#[]⟩, .slice ATO nTO cTO, .string (ofL nm), .string ⟨#[]⟩, .int .i64 0, .slice none 0 0]) := Br_14.out.set 3 (.string (ofL nm))
 have Bx_15 := Lib.hid (Bx_14.out.other (c := w.heap.size) (i := 3) (u := .string (ofL nm)) (by omega))
 have LTO_15 := Lib.hid (LTO_14.out.set (b := w.heap.size) (i := 3) (u := .string (ofL nm)) (by omega))
 have P16' := Lib.hid (P15'.out.own (b := w.heap.size) (by omega) 4 (.string (ofL al)))
 have O16' := Lib.hid (O15'.out.own (b := w.heap.size) (by omega) 4 (.string (ofL al)))
 have Br_16 : Hid (Bx _ _ _ #[.int .i64 6, .string ⟨#[]⟩, .slice ATO nTO cTO, .string (ofL nm), .string (ofL al), .int .i64 0, .slice none 0 0]) := Br_15.out.set 4 (.string (ofL al))
 have Bx_16 := Lib.hid (Bx_15.out.other (c := w.heap.size) (i := 4) (u := .string (ofL al)) (by omega))
 have LTO_16 := Lib.hid (LTO_15.out.set (b := w.heap.size) (i := 4) (u := .string (ofL al)) (by omega))
 have P17' := Lib.hid (P16'.out.own (b := w.heap.size) (by omega) 5 (.int .i64 0))
 have O17' := Lib.hid (O16'.out.own (b := w.heap.size) (by omega) 5 (.int .i64 0))
 have Br_17 : Hid (Bx _ _ _ #[.int .i64 6, .string ⟨#[]⟩, .slice ATO nTO cTO, .string (ofL nm), .string (ofL al), .int .i64 0, .slice none 0 0]) := Br_16.out.set 5 (.int .i64 0)
 have Bx_17 := Lib.hid (Bx_16.out.other (c := w.heap.size) (i := 5) (u := .int .i64 0) (by omega))
 have LTO_17 := Lib.hid (LTO_16.out.set (b := w.heap.size) (i := 5) (u := .int .i64 0) (by omega))
 have P18' := Lib.hid (P17'.out.own (b := w.heap.size) (by omega) 6 (.slice none 0 0))
 have O18' := Lib.hid (O17'.out.own (b := w.heap.size) (by omega) 6 (.slice none 0 0))
 have Br_18 : Hid (Bx _ _ _ #[.int .i64 6, .string ⟨#[]⟩, .slice ATO nTO cTO, .string (ofL nm), .string (ofL al), .int .i64 0, .slice none 0 0]) := Br_17.out.set 6 (.slice none 0 0)
 have Bx_18 := Lib.hid (Bx_17.out.other (c := w.heap.size) (i := 6) (u := .slice none 0 0) (by omega))
 have LTO_18 := Lib.hid (LTO_17.out.set (b := w.heap.size) (i := 6) (u := .slice none 0 0) (by omega))
 refine bodyPost_ret (v := .agg #[.int .i64 6, .string ⟨#[]⟩, .slice ATO nTO cTO, .string (ofL nm), .string (ofL al), .int .i64 0, .slice none 0 0]) (bx_ret Br_18.out Tryz.results230 _ rfl Tryz.underlying70 rfl (by kernel_rfl)) rfl ?_
 exact ⟨_, rfl, (LiesL.cons (.c _ rfl) (LiesL.cons (.c _ rfl) (LiesL.cons (LTO_18.out.from (by omega)) (LiesL.cons (.c _ rfl) (LiesL.cons (.c _ rfl) (LiesL.cons (.c _ rfl) (LiesL.cons (.nil _) (LiesL.nil _ _)))))))), P18'.out, O18'.out⟩
end
end Go.Proofs.YtekpefcggikcbaaGreatDoor
