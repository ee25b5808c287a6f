/- Layer 10: the contracts of the parser's methods that fill structs: message. -/
import Derived.Test.YtekpefcggikcbaaGreatDoorMSynO
namespace Go.Proofs.YtekpefcggikcbaaGreatDoor
open Go.RowKit
abbrev oSynG0 : Obj := .cells #[.string ⟨#[]⟩, .slice none 0 0, .slice none 0 0] 74

section
variable {w w' : World} {g E : Nat} {s : St}
theorem field_rd (L : Nat) : IsRd 194 g E L (fieldP E) vF :=
 ⟨fun args w => enters_of Tryz.func194 (by kernel_rfl) rfl args w, fun _ _ _ h => pfield_any h⟩
set_option maxRecDepth 20000 in
set_option maxHeartbeats 2000000 in
theorem pmessage_any (h : Prs w g E s) : Calls Tryz.prog 135 #[.pointer (some ⟨g, 0, none⟩)] w (GotL w g E (messageP E s).2 (dM (messageP E s).1)) := by
 obtain ⟨s1, hs1⟩ : ∃ s1, (expectP E [109, 101, 115, 115, 97, 103, 101] s).2 = s1 := ⟨_, rfl⟩
 have HS1 := Lib.hid hs1
 obtain ⟨s2, hs2⟩ : ∃ s2, (pathP E s1).2 = s2 := ⟨_, rfl⟩
 have HS2 := Lib.hid hs2
 obtain ⟨nm, hv2⟩ : ∃ nm, (pathP E s1).1 = nm := ⟨_, rfl⟩
 have HV2 := Lib.hid hv2
 obtain ⟨s3, hs3⟩ : ∃ s3, (expectP E [40] s2).2 = s3 := ⟨_, rfl⟩
 have HS3 := Lib.hid hs3
 obtain ⟨s4, hs4⟩ : ∃ s4, (fieldsP E s3).2 = s4 := ⟨_, rfl⟩
 have HS4 := Lib.hid hs4
 obtain ⟨fs, hv4⟩ : ∃ fs, (fieldsP E s3).1 = fs := ⟨_, rfl⟩
 have HV4 := Lib.hid hv4
 obtain ⟨s5, hs5⟩ : ∃ s5, (expectP E [41] s4).2 = s5 := ⟨_, rfl⟩
 have HS5 := Lib.hid hs5
 obtain ⟨s6, hs6⟩ : ∃ s6, (whereP E s5).2 = s6 := ⟨_, rfl⟩
 have HS6 := Lib.hid hs6
 obtain ⟨wh, hv6⟩ : ∃ wh, (whereP E s5).1 = wh := ⟨_, rfl⟩
 have HV6 := Lib.hid hv6
 obtain ⟨s7, hs7⟩ : ∃ s7, (expectP E [59] s6).2 = s7 := ⟨_, rfl⟩
 have HS7 := Lib.hid hs7
 have HR := Lib.hid (show messageP E s = (⟨nm, fs, wh⟩, s7) by subst hs1; subst hs2; subst hv2; subst hs3; subst hs4; subst hv4; subst hs5; subst hs6; subst hv6; subst hs7; rfl)
 rw [HR.out]
 have hmf := makeFunc_run
 have H := Lib.hid h
 have hlt := h.lt
 have HO := Lib.hid (Only.refl g w)
 cases hb : seesB E [41] s3 with
 | true =>
  cases hc : (takeP E [119, 104, 101, 114, 101] s5).1 with
  | true =>
   have HF := Lib.hid (show fieldsP E s3 = ([], s3) by unfold fieldsP; rw [if_pos hb])
   rw [HF.out] at HS4 HV4
   have HW := Lib.hid (show whereP E s5 = sepP E [97, 110, 100] (atomP E) (takeP E [119, 104, 101, 114, 101] s5).2 by unfold whereP; exact take_yes hc)
   rw [HW.out] at HS6 HV6
   have HB := Lib.hid hb
   have HC := Lib.hid hc
   clear h hb hc hs1 hs2 hv2 hs3 hs4 hv4 hs5 hs6 hv6 hs7
   go_enter Tryz.func135, Tryz.ntmps135
   have P1' : Hid (Prs ((w).alloc oSynG0) g E _) := H.out.alloc _
   have O1' : Hid (Only g w ((w).alloc oSynG0)) := HO.out.alloc _
   have Br_1 : Hid (Bx ((w).alloc oSynG0) (w.heap.size) 74 #[.string ⟨#[]⟩, .slice none 0 0, .slice none 0 0]) := Bx.new2 (rfl)
   have P2' : Hid (Prs (((w).alloc oSynG0).alloc oSynG0) g E _) := P1'.out.alloc _
   have O2' : Hid (Only g w (((w).alloc oSynG0).alloc oSynG0)) := O1'.out.alloc _
   have Br_2 : Hid (Bx (((w).alloc oSynG0).alloc oSynG0) (w.heap.size) _ _) := Br_1.out.alloc _
   have Bx_2 : Hid (Bx (((w).alloc oSynG0).alloc oSynG0) (w.heap.size + 1) 74 #[.string ⟨#[]⟩, .slice none 0 0, .slice none 0 0]) := Bx.new2 (by simp only [size_alloc])
   go_wp2_with fail
   refine (pexpect_any P2'.out [109, 101, 115, 115, 97, 103, 101]).mono ?_; rintro e w3 ⟨rfl, P3, O3⟩
   rw [HS1.out] at P3
   have P3' := Lib.hid P3
   have O3' := Lib.hid (O2'.out.trans O3)
   have Br_3 := Lib.hid (Br_2.out.only O3 (by omega))
   have Bx_3 := Lib.hid (Bx_2.out.only O3 (by omega))
   have hz3 : w.heap.size + 2 ≤ w3.heap.size := by have := O3.size; simp only [size_alloc] at this; exact this
   clear P3 O3
   obtain ⟨cr_0, cr_1, cr_2⟩ := Br_3.out.k3
   obtain ⟨fr_0, fr_1, fr_2⟩ := Br_3.out.f3
   obtain ⟨cx_0, cx_1, cx_2⟩ := Bx_3.out.k3
   obtain ⟨fx_0, fx_1, fx_2⟩ := Bx_3.out.f3
   go_wp2_with fail
   refine (ppath_any P3'.out).mono ?_; rintro e w4 ⟨rfl, P4, O4⟩
   rw [HS2.out] at P4
   rw [HV2.out]
   have P4' := Lib.hid P4
   have O4' := Lib.hid (O3'.out.trans O4)
   have Br_4 := Lib.hid (Br_3.out.only O4 (by omega))
   have Bx_4 := Lib.hid (Bx_3.out.only O4 (by omega))
   have hz4 : w3.heap.size ≤ w4.heap.size := O4.size
   clear P4 O4
   clear cr_0 fr_0 cr_1 fr_1 cr_2 fr_2 cx_0 fx_0 cx_1 fx_1 cx_2 fx_2
   obtain ⟨cr_0, cr_1, cr_2⟩ := Br_4.out.k3
   obtain ⟨fr_0, fr_1, fr_2⟩ := Br_4.out.f3
   obtain ⟨cx_0, cx_1, cx_2⟩ := Bx_4.out.k3
   obtain ⟨fx_0, fx_1, fx_2⟩ := Bx_4.out.f3
   have P5' := Lib.hid (P4'.out.own (b := w.heap.size + 1) (by omega) 0 (.string (ofL nm)))
   have O5' := Lib.hid (O4'.out.own (b := w.heap.size + 1) (by omega) 0 (.string (ofL nm)))
   have Br_5 := Lib.hid (Br_4.out.other (c := w.heap.size + 1) (i := 0) (u := .string (ofL nm)) (by omega))
   have Bx_5 : Hid (Bx _ _ _ #[.string (ofL nm), .slice none 0 0, .slice none 0 0]) := Bx_4.out.set 0 (.string (ofL nm))
   go_wp2_with fail
   refine (pexpect_any P5'.out [40]).mono ?_; rintro e w6 ⟨rfl, P6, O6⟩
   rw [HS3.out] at P6
   have P6' := Lib.hid P6
   have O6' := Lib.hid (O5'.out.trans O6)
   have Br_6 := Lib.hid (Br_5.out.only O6 (by omega))
   have Bx_6 := Lib.hid (Bx_5.out.only O6 (by omega))
   have hz6 : w4.heap.size ≤ w6.heap.size := by have := O6.size; simp only [size_set] at this; exact this
   clear P6 O6
   clear cr_0 fr_0 cr_1 fr_1 cr_2 fr_2 cx_0 fx_0 cx_1 fx_1 cx_2 fx_2
   obtain ⟨cr_0, cr_1, cr_2⟩ := Br_6.out.k3
   obtain ⟨fr_0, fr_1, fr_2⟩ := Br_6.out.f3
   obtain ⟨cx_0, cx_1, cx_2⟩ := Bx_6.out.k3
   obtain ⟨fx_0, fx_1, fx_2⟩ := Bx_6.out.f3
   go_wp2_with fail
   refine (psees_any P6'.out [41]).mono ?_; rintro e w7 ⟨rfl, hb7⟩
   rw [HB.out]
   have O7 := (Only.refl g _).below hb7
   have P7 := P6'.out.below hb7 P6'.out.lt
   have P7' := Lib.hid P7
   have O7' := Lib.hid (O6'.out.trans O7)
   have Br_7 := Lib.hid (Br_6.out.only O7 (by omega))
   have Bx_7 := Lib.hid (Bx_6.out.only O7 (by omega))
   have hz7 : w6.heap.size ≤ w7.heap.size := O7.size
   clear P7 O7 hb7
   clear cr_0 fr_0 cr_1 fr_1 cr_2 fr_2 cx_0 fx_0 cx_1 fx_1 cx_2 fx_2
   obtain ⟨cr_0, cr_1, cr_2⟩ := Br_7.out.k3
   obtain ⟨fr_0, fr_1, fr_2⟩ := Br_7.out.f3
   obtain ⟨cx_0, cx_1, cx_2⟩ := Bx_7.out.k3
   obtain ⟨fx_0, fx_1, fx_2⟩ := Bx_7.out.f3
   go_wp2_with fail
   have h34 : s3 = s4 := HS4.out
   have hfs : [] = fs := HV4.out
   subst h34
   subst hfs
   refine (pexpect_any P7'.out [41]).mono ?_; rintro e w8 ⟨rfl, P8, O8⟩
   rw [HS5.out] at P8
   have P8' := Lib.hid P8
   have O8' := Lib.hid (O7'.out.trans O8)
   have Br_8 := Lib.hid (Br_7.out.only O8 (by omega))
   have Bx_8 := Lib.hid (Bx_7.out.only O8 (by omega))
   have hz8 : w7.heap.size ≤ w8.heap.size := O8.size
   clear P8 O8
   clear cr_0 fr_0 cr_1 fr_1 cr_2 fr_2 cx_0 fx_0 cx_1 fx_1 cx_2 fx_2
   obtain ⟨cr_0, cr_1, cr_2⟩ := Br_8.out.k3
   obtain ⟨fr_0, fr_1, fr_2⟩ := Br_8.out.f3
   obtain ⟨cx_0, cx_1, cx_2⟩ := Bx_8.out.k3
   obtain ⟨fx_0, fx_1, fx_2⟩ := Bx_8.out.f3
   go_wp2_with fail
   refine (ptake_any P8'.out [119, 104, 101, 114, 101]).mono ?_; rintro e w9 ⟨rfl, P9, O9⟩
   rw [HC.out]
   have P9' := Lib.hid P9
   have O9' := Lib.hid (O8'.out.trans O9)
   have Br_9 := Lib.hid (Br_8.out.only O9 (by omega))
   have Bx_9 := Lib.hid (Bx_8.out.only O9 (by omega))
   have hz9 : w8.heap.size ≤ w9.heap.size := O9.size
   clear P9 O9
   clear cr_0 fr_0 cr_1 fr_1 cr_2 fr_2 cx_0 fx_0 cx_1 fx_1 cx_2 fx_2
   obtain ⟨cr_0, cr_1, cr_2⟩ := Br_9.out.k3
   obtain ⟨fr_0, fr_1, fr_2⟩ := Br_9.out.f3
   obtain ⟨cx_0, cx_1, cx_2⟩ := Bx_9.out.k3
   obtain ⟨fx_0, fx_1, fx_2⟩ := Bx_9.out.f3
   go_wp2_with fail
   refine (sepAtom_any _ atomP_dec (atom_rd _) [97, 110, 100] P9'.out (Nat.le_refl _) P9'.out.small.len).mono ?_; rintro e w10 ⟨v, rfl, LV, P10, O10⟩
   obtain ⟨AWH, nWH, cWH, rfl, -⟩ := LV.slc
   rw [HV6.out] at LV
   rw [HS6.out] at P10
   have LWH_10 := Lib.hid (show Lies w10 (fun k => w9.heap.size ≤ k) (.slice AWH nWH cWH) (.s 9 (wh.flatMap dA)) from LV)
   have P10' := Lib.hid P10
   have O10' := Lib.hid (O9'.out.trans O10)
   have Br_10 := Lib.hid (Br_9.out.only O10 (by omega))
   have Bx_10 := Lib.hid (Bx_9.out.only O10 (by omega))
   have hz10 : w9.heap.size ≤ w10.heap.size := O10.size
   clear P10 O10 LV
   clear cr_0 fr_0 cr_1 fr_1 cr_2 fr_2 cx_0 fx_0 cx_1 fx_1 cx_2 fx_2
   obtain ⟨cr_0, cr_1, cr_2⟩ := Br_10.out.k3
   obtain ⟨fr_0, fr_1, fr_2⟩ := Br_10.out.f3
   obtain ⟨cx_0, cx_1, cx_2⟩ := Bx_10.out.k3
   obtain ⟨fx_0, fx_1, fx_2⟩ := Bx_10.out.f3
   have P11' := Lib.hid (P10'.out.own (b := w.heap.size + 1) (by omega) 2 (.slice AWH nWH cWH))
   have O11' := Lib.hid (O10'.out.own (b := w.heap.size + 1) (by omega) 2 (.slice AWH nWH cWH))
   have Br_11 := Lib.hid (Br_10.out.other (c := w.heap.size + 1) (i := 2) (u := .slice AWH nWH cWH) (by omega))
   have Bx_11 : Hid (Bx _ _ _ #[.string (ofL nm), .slice none 0 0, .slice AWH nWH cWH]) := Bx_10.out.set 2 (.slice AWH nWH cWH)
   have LWH_11 := Lib.hid (LWH_10.out.set (b := w.heap.size + 1) (i := 2) (u := .slice AWH nWH cWH) (by omega))
   go_wp2_with fail
   refine (pexpect_any P11'.out [59]).mono ?_; rintro e w12 ⟨rfl, P12, O12⟩
   rw [HS7.out] at P12
   have P12' := Lib.hid P12
   have O12' := Lib.hid (O11'.out.trans O12)
   have Br_12 := Lib.hid (Br_11.out.only O12 (by omega))
   have Bx_12 := Lib.hid (Bx_11.out.only O12 (by omega))
   have LWH_12 := Lib.hid (LWH_11.out.only O12 (by omega))
   have hz12 : w10.heap.size ≤ w12.heap.size := by have := O12.size; simp only [size_set] at this; exact this
   clear P12 O12
   clear cr_0 fr_0 cr_1 fr_1 cr_2 fr_2 cx_0 fx_0 cx_1 fx_1 cx_2 fx_2
   obtain ⟨cr_0, cr_1, cr_2⟩ := Br_12.out.k3
   obtain ⟨fr_0, fr_1, fr_2⟩ := Br_12.out.f3
   obtain ⟨cx_0, cx_1, cx_2⟩ := Bx_12.out.k3
   obtain ⟨fx_0, fx_1, fx_2⟩ := Bx_12.out.f3
   go_wp2_with fail
   have P13' := Lib.hid (P12'.out.own (b := w.heap.size) (by omega) 0 (.string (ofL nm)))
   have O13' := Lib.hid (O12'.out.own (b := w.heap.size) (by omega) 0 (.string (ofL nm)))
   have Br_13 : Hid (Bx _ _ _ #[.string (ofL nm), .slice none 0 0, .slice none 0 0]) := Br_12.out.set 0 (.string (ofL nm))
   have Bx_13 := Lib.hid (Bx_12.out.other (c := w.heap.size) (i := 0) (u := .string (ofL nm)) (by omega))
   have LWH_13 := Lib.hid (LWH_12.out.set (b := w.heap.size) (i := 0) (u := .string (ofL nm)) (by omega))
   have P14' := Lib.hid (P13'.out.own (b := w.heap.size) (by omega) 1 (.slice none 0 0))
   have O14' := Lib.hid (O13'.out.own (b := w.heap.size) (by omega) 1 (.slice none 0 0))
   have Br_14 : Hid (Bx _ _ _ #[.string (ofL nm), .slice none 0 0, .slice none 0 0]) := Br_13.out.set 1 (.slice none 0 0)
   have Bx_14 := Lib.hid (Bx_13.out.other (c := w.heap.size) (i := 1) (u := .slice none 0 0) (by omega))
   have LWH_14 := Lib.hid (LWH_13.out.set (b := w.heap.size) (i := 1) (u := .slice none 0 0) (by omega))
   have P15' := Lib.hid (P14'.out.own (b := w.heap.size) (by omega) 2 (.slice AWH nWH cWH))
   have O15' := Lib.hid (O14'.out.own (b := w.heap.size) (by omega) 2 (.slice AWH nWH cWH))
   have Br_15 : Hid (Bx _ _ _ #[.string (ofL nm), .slice none 0 0, .slice AWH nWH cWH]) := Br_14.out.set 2 (.slice AWH nWH cWH)
   have Bx_15 := Lib.hid (Bx_14.out.other (c := w.heap.size) (i := 2) (u := .slice AWH nWH cWH) (by omega))
   have LWH_15 := Lib.hid (LWH_14.out.set (b := w.heap.size) (i := 2) (u := .slice AWH nWH cWH) (by omega))
   refine bodyPost_ret (v := .agg #[.string (ofL nm), .slice none 0 0, .slice AWH nWH cWH]) (bx_ret Br_15.out Tryz.results135 _ rfl Tryz.underlying74 rfl (by kernel_rfl)) rfl ?_
   exact ⟨_, rfl, (LiesL.cons (.c _ rfl) (LiesL.cons (.nil _) (LiesL.cons (LWH_15.out.from (by omega)) (LiesL.nil _ _)))), P15'.out, O15'.out⟩
  | false =>
   have HF := Lib.hid (show fieldsP E s3 = ([], s3) by unfold fieldsP; rw [if_pos hb])
   rw [HF.out] at HS4 HV4
   have HW := Lib.hid (show whereP E s5 = ([], (takeP E [119, 104, 101, 114, 101] s5).2) by unfold whereP; exact take_no hc)
   rw [HW.out] at HS6 HV6
   have HB := Lib.hid hb
   have HC := Lib.hid hc
   clear h hb hc hs1 hs2 hv2 hs3 hs4 hv4 hs5 hs6 hv6 hs7
   go_enter Tryz.func135, Tryz.ntmps135
   have P1' : Hid (Prs ((w).alloc oSynG0) g E _) := H.out.alloc _
   have O1' : Hid (Only g w ((w).alloc oSynG0)) := HO.out.alloc _
   have Br_1 : Hid (Bx ((w).alloc oSynG0) (w.heap.size) 74 #[.string ⟨#[]⟩, .slice none 0 0, .slice none 0 0]) := Bx.new2 (rfl)
   have P2' : Hid (Prs (((w).alloc oSynG0).alloc oSynG0) g E _) := P1'.out.alloc _
   have O2' : Hid (Only g w (((w).alloc oSynG0).alloc oSynG0)) := O1'.out.alloc _
   have Br_2 : Hid (Bx (((w).alloc oSynG0).alloc oSynG0) (w.heap.size) _ _) := Br_1.out.alloc _
   have Bx_2 : Hid (Bx (((w).alloc oSynG0).alloc oSynG0) (w.heap.size + 1) 74 #[.string ⟨#[]⟩, .slice none 0 0, .slice none 0 0]) := Bx.new2 (by simp only [size_alloc])
   go_wp2_with fail
   refine (pexpect_any P2'.out [109, 101, 115, 115, 97, 103, 101]).mono ?_; rintro e w3 ⟨rfl, P3, O3⟩
   rw [HS1.out] at P3
   have P3' := Lib.hid P3
   have O3' := Lib.hid (O2'.out.trans O3)
   have Br_3 := Lib.hid (Br_2.out.only O3 (by omega))
   have Bx_3 := Lib.hid (Bx_2.out.only O3 (by omega))
   have hz3 : w.heap.size + 2 ≤ w3.heap.size := by have := O3.size; simp only [size_alloc] at this; exact this
   clear P3 O3
   obtain ⟨cr_0, cr_1, cr_2⟩ := Br_3.out.k3
   obtain ⟨fr_0, fr_1, fr_2⟩ := Br_3.out.f3
   obtain ⟨cx_0, cx_1, cx_2⟩ := Bx_3.out.k3
   obtain ⟨fx_0, fx_1, fx_2⟩ := Bx_3.out.f3
   go_wp2_with fail
   refine (ppath_any P3'.out).mono ?_; rintro e w4 ⟨rfl, P4, O4⟩
   rw [HS2.out] at P4
   rw [HV2.out]
   have P4' := Lib.hid P4
   have O4' := Lib.hid (O3'.out.trans O4)
   have Br_4 := Lib.hid (Br_3.out.only O4 (by omega))
   have Bx_4 := Lib.hid (Bx_3.out.only O4 (by omega))
   have hz4 : w3.heap.size ≤ w4.heap.size := O4.size
   clear P4 O4
   clear cr_0 fr_0 cr_1 fr_1 cr_2 fr_2 cx_0 fx_0 cx_1 fx_1 cx_2 fx_2
   obtain ⟨cr_0, cr_1, cr_2⟩ := Br_4.out.k3
   obtain ⟨fr_0, fr_1, fr_2⟩ := Br_4.out.f3
   obtain ⟨cx_0, cx_1, cx_2⟩ := Bx_4.out.k3
   obtain ⟨fx_0, fx_1, fx_2⟩ := Bx_4.out.f3
   have P5' := Lib.hid (P4'.out.own (b := w.heap.size + 1) (by omega) 0 (.string (ofL nm)))
   have O5' := Lib.hid (O4'.out.own (b := w.heap.size + 1) (by omega) 0 (.string (ofL nm)))
   have Br_5 := Lib.hid (Br_4.out.other (c := w.heap.size + 1) (i := 0) (u := .string (ofL nm)) (by omega))
   have Bx_5 : Hid (Bx _ _ _ #[.string (ofL nm), .slice none 0 0, .slice none 0 0]) := Bx_4.out.set 0 (.string (ofL nm))
   go_wp2_with fail
   refine (pexpect_any P5'.out [40]).mono ?_; rintro e w6 ⟨rfl, P6, O6⟩
   rw [HS3.out] at P6
   have P6' := Lib.hid P6
   have O6' := Lib.hid (O5'.out.trans O6)
   have Br_6 := Lib.hid (Br_5.out.only O6 (by omega))
   have Bx_6 := Lib.hid (Bx_5.out.only O6 (by omega))
   have hz6 : w4.heap.size ≤ w6.heap.size := by have := O6.size; simp only [size_set] at this; exact this
   clear P6 O6
   clear cr_0 fr_0 cr_1 fr_1 cr_2 fr_2 cx_0 fx_0 cx_1 fx_1 cx_2 fx_2
   obtain ⟨cr_0, cr_1, cr_2⟩ := Br_6.out.k3
   obtain ⟨fr_0, fr_1, fr_2⟩ := Br_6.out.f3
   obtain ⟨cx_0, cx_1, cx_2⟩ := Bx_6.out.k3
   obtain ⟨fx_0, fx_1, fx_2⟩ := Bx_6.out.f3
   go_wp2_with fail
   refine (psees_any P6'.out [41]).mono ?_; rintro e w7 ⟨rfl, hb7⟩
   rw [HB.out]
   have O7 := (Only.refl g _).below hb7
   have P7 := P6'.out.below hb7 P6'.out.lt
   have P7' := Lib.hid P7
   have O7' := Lib.hid (O6'.out.trans O7)
   have Br_7 := Lib.hid (Br_6.out.only O7 (by omega))
   have Bx_7 := Lib.hid (Bx_6.out.only O7 (by omega))
   have hz7 : w6.heap.size ≤ w7.heap.size := O7.size
   clear P7 O7 hb7
   clear cr_0 fr_0 cr_1 fr_1 cr_2 fr_2 cx_0 fx_0 cx_1 fx_1 cx_2 fx_2
   obtain ⟨cr_0, cr_1, cr_2⟩ := Br_7.out.k3
   obtain ⟨fr_0, fr_1, fr_2⟩ := Br_7.out.f3
   obtain ⟨cx_0, cx_1, cx_2⟩ := Bx_7.out.k3
   obtain ⟨fx_0, fx_1, fx_2⟩ := Bx_7.out.f3
   go_wp2_with fail
   have h34 : s3 = s4 := HS4.out
   have hfs : [] = fs := HV4.out
   subst h34
   subst hfs
   refine (pexpect_any P7'.out [41]).mono ?_; rintro e w8 ⟨rfl, P8, O8⟩
   rw [HS5.out] at P8
   have P8' := Lib.hid P8
   have O8' := Lib.hid (O7'.out.trans O8)
   have Br_8 := Lib.hid (Br_7.out.only O8 (by omega))
   have Bx_8 := Lib.hid (Bx_7.out.only O8 (by omega))
   have hz8 : w7.heap.size ≤ w8.heap.size := O8.size
   clear P8 O8
   clear cr_0 fr_0 cr_1 fr_1 cr_2 fr_2 cx_0 fx_0 cx_1 fx_1 cx_2 fx_2
   obtain ⟨cr_0, cr_1, cr_2⟩ := Br_8.out.k3
   obtain ⟨fr_0, fr_1, fr_2⟩ := Br_8.out.f3
   obtain ⟨cx_0, cx_1, cx_2⟩ := Bx_8.out.k3
   obtain ⟨fx_0, fx_1, fx_2⟩ := Bx_8.out.f3
   go_wp2_with fail
   refine (ptake_any P8'.out [119, 104, 101, 114, 101]).mono ?_; rintro e w9 ⟨rfl, P9, O9⟩
   rw [HC.out]
   have P9' := Lib.hid P9
   have O9' := Lib.hid (O8'.out.trans O9)
   have Br_9 := Lib.hid (Br_8.out.only O9 (by omega))
   have Bx_9 := Lib.hid (Bx_8.out.only O9 (by omega))
   have hz9 : w8.heap.size ≤ w9.heap.size := O9.size
   clear P9 O9
   clear cr_0 fr_0 cr_1 fr_1 cr_2 fr_2 cx_0 fx_0 cx_1 fx_1 cx_2 fx_2
   obtain ⟨cr_0, cr_1, cr_2⟩ := Br_9.out.k3
   obtain ⟨fr_0, fr_1, fr_2⟩ := Br_9.out.f3
   obtain ⟨cx_0, cx_1, cx_2⟩ := Bx_9.out.k3
   obtain ⟨fx_0, fx_1, fx_2⟩ := Bx_9.out.f3
   go_wp2_with fail
   have h56 : (takeP E [119, 104, 101, 114, 101] s5).2 = s6 := HS6.out
   have hwh : [] = wh := HV6.out
   subst hwh
   rw [h56] at P9'
   refine (pexpect_any P9'.out [59]).mono ?_; rintro e w10 ⟨rfl, P10, O10⟩
   rw [HS7.out] at P10
   have P10' := Lib.hid P10
   have O10' := Lib.hid (O9'.out.trans O10)
   have Br_10 := Lib.hid (Br_9.out.only O10 (by omega))
   have Bx_10 := Lib.hid (Bx_9.out.only O10 (by omega))
   have hz10 : w9.heap.size ≤ w10.heap.size := O10.size
   clear P10 O10
   clear cr_0 fr_0 cr_1 fr_1 cr_2 fr_2 cx_0 fx_0 cx_1 fx_1 cx_2 fx_2
   obtain ⟨cr_0, cr_1, cr_2⟩ := Br_10.out.k3
   obtain ⟨fr_0, fr_1, fr_2⟩ := Br_10.out.f3
   obtain ⟨cx_0, cx_1, cx_2⟩ := Bx_10.out.k3
   obtain ⟨fx_0, fx_1, fx_2⟩ := Bx_10.out.f3
   go_wp2_with fail
   have P11' := Lib.hid (P10'.out.own (b := w.heap.size) (by omega) 0 (.string (ofL nm)))
   have O11' := Lib.hid (O10'.out.own (b := w.heap.size) (by omega) 0 (.string (ofL nm)))
   have Br_11 : Hid (Bx _ _ _ #[.string (ofL nm), .slice none 0 0, .slice none 0 0]) := Br_10.out.set 0 (.string (ofL nm))
   have Bx_11 := Lib.hid (Bx_10.out.other (c := w.heap.size) (i := 0) (u := .string (ofL nm)) (by omega))
   have P12' := Lib.hid (P11'.out.own (b := w.heap.size) (by omega) 1 (.slice none 0 0))
   have O12' := Lib.hid (O11'.out.own (b := w.heap.size) (by omega) 1 (.slice none 0 0))
   have Br_12 : Hid (Bx _ _ _ #[.string (ofL nm), .slice none 0 0, .slice none 0 0]) := Br_11.out.set 1 (.slice none 0 0)
   have Bx_12 := Lib.hid (Bx_11.out.other (c := w.heap.size) (i := 1) (u := .slice none 0 0) (by omega))
   have P13' := Lib.hid (P12'.out.own (b := w.heap.size) (by omega) 2 (.slice none 0 0))
   have O13' := Lib.hid (O12'.out.own (b := w.heap.size) (by omega) 2 (.slice none 0 0))
   have Br_13 : Hid (Bx _ _ _ #[.string (ofL nm), .slice none 0 0, .slice none 0 0]) := Br_12.out.set 2 (.slice none 0 0)
   have Bx_13 := Lib.hid (Bx_12.out.other (c := w.heap.size) (i := 2) (u := .slice none 0 0) (by omega))
   refine bodyPost_ret (v := .agg #[.string (ofL nm), .slice none 0 0, .slice none 0 0]) (bx_ret Br_13.out Tryz.results135 _ rfl Tryz.underlying74 rfl (by kernel_rfl)) rfl ?_
   exact ⟨_, rfl, (LiesL.cons (.c _ rfl) (LiesL.cons (.nil _) (LiesL.cons (.nil _) (LiesL.nil _ _)))), P13'.out, O13'.out⟩
 | false =>
  cases hc : (takeP E [119, 104, 101, 114, 101] s5).1 with
  | true =>
   have HF := Lib.hid (show fieldsP E s3 = sepP E [44] (fieldP E) s3 by unfold fieldsP; rw [if_neg (by simp [hb])])
   rw [HF.out] at HS4 HV4
   have HW := Lib.hid (show whereP E s5 = sepP E [97, 110, 100] (atomP E) (takeP E [119, 104, 101, 114, 101] s5).2 by unfold whereP; exact take_yes hc)
   rw [HW.out] at HS6 HV6
   have HB := Lib.hid hb
   have HC := Lib.hid hc
   clear h hb hc hs1 hs2 hv2 hs3 hs4 hv4 hs5 hs6 hv6 hs7
   go_enter Tryz.func135, Tryz.ntmps135
   have P1' : Hid (Prs ((w).alloc oSynG0) g E _) := H.out.alloc _
   have O1' : Hid (Only g w ((w).alloc oSynG0)) := HO.out.alloc _
   have Br_1 : Hid (Bx ((w).alloc oSynG0) (w.heap.size) 74 #[.string ⟨#[]⟩, .slice none 0 0, .slice none 0 0]) := Bx.new2 (rfl)
   have P2' : Hid (Prs (((w).alloc oSynG0).alloc oSynG0) g E _) := P1'.out.alloc _
   have O2' : Hid (Only g w (((w).alloc oSynG0).alloc oSynG0)) := O1'.out.alloc _
   have Br_2 : Hid (Bx (((w).alloc oSynG0).alloc oSynG0) (w.heap.size) _ _) := Br_1.out.alloc _
   have Bx_2 : Hid (Bx (((w).alloc oSynG0).alloc oSynG0) (w.heap.size + 1) 74 #[.string ⟨#[]⟩, .slice none 0 0, .slice none 0 0]) := Bx.new2 (by simp only [size_alloc])
   go_wp2_with fail
   refine (pexpect_any P2'.out [109, 101, 115, 115, 97, 103, 101]).mono ?_; rintro e w3 ⟨rfl, P3, O3⟩
   rw [HS1.out] at P3
   have P3' := Lib.hid P3
   have O3' := Lib.hid (O2'.out.trans O3)
   have Br_3 := Lib.hid (Br_2.out.only O3 (by omega))
   have Bx_3 := Lib.hid (Bx_2.out.only O3 (by omega))
   have hz3 : w.heap.size + 2 ≤ w3.heap.size := by have := O3.size; simp only [size_alloc] at this; exact this
   clear P3 O3
   obtain ⟨cr_0, cr_1, cr_2⟩ := Br_3.out.k3
   obtain ⟨fr_0, fr_1, fr_2⟩ := Br_3.out.f3
   obtain ⟨cx_0, cx_1, cx_2⟩ := Bx_3.out.k3
   obtain ⟨fx_0, fx_1, fx_2⟩ := Bx_3.out.f3
   go_wp2_with fail
   refine (ppath_any P3'.out).mono ?_; rintro e w4 ⟨rfl, P4, O4⟩
   rw [HS2.out] at P4
   rw [HV2.out]
   have P4' := Lib.hid P4
   have O4' := Lib.hid (O3'.out.trans O4)
   have Br_4 := Lib.hid (Br_3.out.only O4 (by omega))
   have Bx_4 := Lib.hid (Bx_3.out.only O4 (by omega))
   have hz4 : w3.heap.size ≤ w4.heap.size := O4.size
   clear P4 O4
   clear cr_0 fr_0 cr_1 fr_1 cr_2 fr_2 cx_0 fx_0 cx_1 fx_1 cx_2 fx_2
   obtain ⟨cr_0, cr_1, cr_2⟩ := Br_4.out.k3
   obtain ⟨fr_0, fr_1, fr_2⟩ := Br_4.out.f3
   obtain ⟨cx_0, cx_1, cx_2⟩ := Bx_4.out.k3
   obtain ⟨fx_0, fx_1, fx_2⟩ := Bx_4.out.f3
   have P5' := Lib.hid (P4'.out.own (b := w.heap.size + 1) (by omega) 0 (.string (ofL nm)))
   have O5' := Lib.hid (O4'.out.own (b := w.heap.size + 1) (by omega) 0 (.string (ofL nm)))
   have Br_5 := Lib.hid (Br_4.out.other (c := w.heap.size + 1) (i := 0) (u := .string (ofL nm)) (by omega))
   have Bx_5 : Hid (Bx _ _ _ #[.string (ofL nm), .slice none 0 0, .slice none 0 0]) := Bx_4.out.set 0 (.string (ofL nm))
   go_wp2_with fail
   refine (pexpect_any P5'.out [40]).mono ?_; rintro e w6 ⟨rfl, P6, O6⟩
   rw [HS3.out] at P6
   have P6' := Lib.hid P6
   have O6' := Lib.hid (O5'.out.trans O6)
   have Br_6 := Lib.hid (Br_5.out.only O6 (by omega))
   have Bx_6 := Lib.hid (Bx_5.out.only O6 (by omega))
   have hz6 : w4.heap.size ≤ w6.heap.size := by have := O6.size; simp only [size_set] at this; exact this
   clear P6 O6
   clear cr_0 fr_0 cr_1 fr_1 cr_2 fr_2 cx_0 fx_0 cx_1 fx_1 cx_2 fx_2
   obtain ⟨cr_0, cr_1, cr_2⟩ := Br_6.out.k3
   obtain ⟨fr_0, fr_1, fr_2⟩ := Br_6.out.f3
   obtain ⟨cx_0, cx_1, cx_2⟩ := Bx_6.out.k3
   obtain ⟨fx_0, fx_1, fx_2⟩ := Bx_6.out.f3
   go_wp2_with fail
   refine (psees_any P6'.out [41]).mono ?_; rintro e w7 ⟨rfl, hb7⟩
   rw [HB.out]
   have O7 := (Only.refl g _).below hb7
   have P7 := P6'.out.below hb7 P6'.out.lt
   have P7' := Lib.hid P7
   have O7' := Lib.hid (O6'.out.trans O7)
   have Br_7 := Lib.hid (Br_6.out.only O7 (by omega))
   have Bx_7 := Lib.hid (Bx_6.out.only O7 (by omega))
   have hz7 : w6.heap.size ≤ w7.heap.size := O7.size
   clear P7 O7 hb7
   clear cr_0 fr_0 cr_1 fr_1 cr_2 fr_2 cx_0 fx_0 cx_1 fx_1 cx_2 fx_2
   obtain ⟨cr_0, cr_1, cr_2⟩ := Br_7.out.k3
   obtain ⟨fr_0, fr_1, fr_2⟩ := Br_7.out.f3
   obtain ⟨cx_0, cx_1, cx_2⟩ := Bx_7.out.k3
   obtain ⟨fx_0, fx_1, fx_2⟩ := Bx_7.out.f3
   go_wp2_with fail
   refine (sepField_any _ fieldP_dec (field_rd _) [44] P7'.out (Nat.le_refl _) P7'.out.small.len).mono ?_; rintro e w8 ⟨v, rfl, LV, P8, O8⟩
   obtain ⟨AFS, nFS, cFS, rfl, -⟩ := LV.slc
   rw [HV4.out] at LV
   rw [HS4.out] at P8
   have LFS_8 := Lib.hid (show Lies w8 (fun k => w7.heap.size ≤ k) (.slice AFS nFS cFS) (.s 4 (fs.flatMap dF)) from LV)
   have P8' := Lib.hid P8
   have O8' := Lib.hid (O7'.out.trans O8)
   have Br_8 := Lib.hid (Br_7.out.only O8 (by omega))
   have Bx_8 := Lib.hid (Bx_7.out.only O8 (by omega))
   have hz8 : w7.heap.size ≤ w8.heap.size := O8.size
   clear P8 O8 LV
   clear cr_0 fr_0 cr_1 fr_1 cr_2 fr_2 cx_0 fx_0 cx_1 fx_1 cx_2 fx_2
   obtain ⟨cr_0, cr_1, cr_2⟩ := Br_8.out.k3
   obtain ⟨fr_0, fr_1, fr_2⟩ := Br_8.out.f3
   obtain ⟨cx_0, cx_1, cx_2⟩ := Bx_8.out.k3
   obtain ⟨fx_0, fx_1, fx_2⟩ := Bx_8.out.f3
   have P9' := Lib.hid (P8'.out.own (b := w.heap.size + 1) (by omega) 1 (.slice AFS nFS cFS))
   have O9' := Lib.hid (O8'.out.own (b := w.heap.size + 1) (by omega) 1 (.slice AFS nFS cFS))
   have Br_9 := Lib.hid (Br_8.out.other (c := w.heap.size + 1) (i := 1) (u := .slice AFS nFS cFS) (by omega))
   have Bx_9 : Hid (Bx _ _ _ #[.string (ofL nm), .slice AFS nFS cFS, .slice none 0 0]) := Bx_8.out.set 1 (.slice AFS nFS cFS)
   have LFS_9 := Lib.hid (LFS_8.out.set (b := w.heap.size + 1) (i := 1) (u := .slice AFS nFS cFS) (by omega))
   go_wp2_with fail
   refine (pexpect_any P9'.out [41]).mono ?_; rintro e w10 ⟨rfl, P10, O10⟩
   rw [HS5.out] at P10
   have P10' := Lib.hid P10
   have O10' := Lib.hid (O9'.out.trans O10)
   have Br_10 := Lib.hid (Br_9.out.only O10 (by omega))
   have Bx_10 := Lib.hid (Bx_9.out.only O10 (by omega))
   have LFS_10 := Lib.hid (LFS_9.out.only O10 (by omega))
   have hz10 : w8.heap.size ≤ w10.heap.size := by have := O10.size; simp only [size_set] at this; exact this
   clear P10 O10
   clear cr_0 fr_0 cr_1 fr_1 cr_2 fr_2 cx_0 fx_0 cx_1 fx_1 cx_2 fx_2
   obtain ⟨cr_0, cr_1, cr_2⟩ := Br_10.out.k3
   obtain ⟨fr_0, fr_1, fr_2⟩ := Br_10.out.f3
   obtain ⟨cx_0, cx_1, cx_2⟩ := Bx_10.out.k3
   obtain ⟨fx_0, fx_1, fx_2⟩ := Bx_10.out.f3
   go_wp2_with fail
   refine (ptake_any P10'.out [119, 104, 101, 114, 101]).mono ?_; rintro e w11 ⟨rfl, P11, O11⟩
   rw [HC.out]
   have P11' := Lib.hid P11
   have O11' := Lib.hid (O10'.out.trans O11)
   have Br_11 := Lib.hid (Br_10.out.only O11 (by omega))
   have Bx_11 := Lib.hid (Bx_10.out.only O11 (by omega))
   have LFS_11 := Lib.hid (LFS_10.out.only O11 (by omega))
   have hz11 : w10.heap.size ≤ w11.heap.size := O11.size
   clear P11 O11
   clear cr_0 fr_0 cr_1 fr_1 cr_2 fr_2 cx_0 fx_0 cx_1 fx_1 cx_2 fx_2
   obtain ⟨cr_0, cr_1, cr_2⟩ := Br_11.out.k3
   obtain ⟨fr_0, fr_1, fr_2⟩ := Br_11.out.f3
   obtain ⟨cx_0, cx_1, cx_2⟩ := Bx_11.out.k3
   obtain ⟨fx_0, fx_1, fx_2⟩ := Bx_11.out.f3
   go_wp2_with fail
   refine (sepAtom_any _ atomP_dec (atom_rd _) [97, 110, 100] P11'.out (Nat.le_refl _) P11'.out.small.len).mono ?_; rintro e w12 ⟨v, rfl, LV, P12, O12⟩
   obtain ⟨AWH, nWH, cWH, rfl, -⟩ := LV.slc
   rw [HV6.out] at LV
   rw [HS6.out] at P12
   have LWH_12 := Lib.hid (show Lies w12 (fun k => w11.heap.size ≤ k) (.slice AWH nWH cWH) (.s 9 (wh.flatMap dA)) from LV)
   have P12' := Lib.hid P12
   have O12' := Lib.hid (O11'.out.trans O12)
   have Br_12 := Lib.hid (Br_11.out.only O12 (by omega))
   have Bx_12 := Lib.hid (Bx_11.out.only O12 (by omega))
   have LFS_12 := Lib.hid (LFS_11.out.only O12 (by omega))
   have hz12 : w11.heap.size ≤ w12.heap.size := O12.size
   clear P12 O12 LV
   clear cr_0 fr_0 cr_1 fr_1 cr_2 fr_2 cx_0 fx_0 cx_1 fx_1 cx_2 fx_2
   obtain ⟨cr_0, cr_1, cr_2⟩ := Br_12.out.k3
   obtain ⟨fr_0, fr_1, fr_2⟩ := Br_12.out.f3
   obtain ⟨cx_0, cx_1, cx_2⟩ := Bx_12.out.k3
   obtain ⟨fx_0, fx_1, fx_2⟩ := Bx_12.out.f3
   have P13' := Lib.hid (P12'.out.own (b := w.heap.size + 1) (by omega) 2 (.slice AWH nWH cWH))
   have O13' := Lib.hid (O12'.out.own (b := w.heap.size + 1) (by omega) 2 (.slice AWH nWH cWH))
   have Br_13 := Lib.hid (Br_12.out.other (c := w.heap.size + 1) (i := 2) (u := .slice AWH nWH cWH) (by omega))
   have Bx_13 : Hid (Bx _ _ _ #[.string (ofL nm), .slice AFS nFS cFS, .slice AWH nWH cWH]) := Bx_12.out.set 2 (.slice AWH nWH cWH)
   have LFS_13 := Lib.hid (LFS_12.out.set (b := w.heap.size + 1) (i := 2) (u := .slice AWH nWH cWH) (by omega))
   have LWH_13 := Lib.hid (LWH_12.out.set (b := w.heap.size + 1) (i := 2) (u := .slice AWH nWH cWH) (by omega))
   go_wp2_with fail
   refine (pexpect_any P13'.out [59]).mono ?_; rintro e w14 ⟨rfl, P14, O14⟩
   rw [HS7.out] at P14
   have P14' := Lib.hid P14
   have O14' := Lib.hid (O13'.out.trans O14)
   have Br_14 := Lib.hid (Br_13.out.only O14 (by omega))
   have Bx_14 := Lib.hid (Bx_13.out.only O14 (by omega))
   have LFS_14 := Lib.hid (LFS_13.out.only O14 (by omega))
   have LWH_14 := Lib.hid (LWH_13.out.only O14 (by omega))
   have hz14 : w12.heap.size ≤ w14.heap.size := by have := O14.size; simp only [size_set] at this; exact this
   clear P14 O14
   clear cr_0 fr_0 cr_1 fr_1 cr_2 fr_2 cx_0 fx_0 cx_1 fx_1 cx_2 fx_2
   obtain ⟨cr_0, cr_1, cr_2⟩ := Br_14.out.k3
   obtain ⟨fr_0, fr_1, fr_2⟩ := Br_14.out.f3
   obtain ⟨cx_0, cx_1, cx_2⟩ := Bx_14.out.k3
   obtain ⟨fx_0, fx_1, fx_2⟩ := Bx_14.out.f3
   go_wp2_with fail
   have P15' := Lib.hid (P14'.out.own (b := w.heap.size) (by omega) 0 (.string (ofL nm)))
   have O15' := Lib.hid (O14'.out.own (b := w.heap.size) (by omega) 0 (.string (ofL nm)))
   have Br_15 : Hid (Bx _ _ _ #[.string (ofL nm), .slice none 0 0, .slice none 0 0]) := Br_14.out.set 0 (.string (ofL nm))
   have Bx_15 := Lib.hid (Bx_14.out.other (c := w.heap.size) (i := 0) (u := .string (ofL nm)) (by omega))
   have LFS_15 := Lib.hid (LFS_14.out.set (b := w.heap.size) (i := 0) (u := .string (ofL nm)) (by omega))
   have LWH_15 := Lib.hid (LWH_14.out.set (b := w.heap.size) (i := 0) (u := .string (ofL nm)) (by omega))
   have P16' := Lib.hid (P15'.out.own (b := w.heap.size) (by omega) 1 (.slice AFS nFS cFS))
   have O16' := Lib.hid (O15'.out.own (b := w.heap.size) (by omega) 1 (.slice AFS nFS cFS))
   have Br_16 : Hid (Bx _ _ _ #[.string (ofL nm), .slice AFS nFS cFS, .slice none 0 0]) := Br_15.out.set 1 (.slice AFS nFS cFS)
   have Bx_16 := Lib.hid (Bx_15.out.other (c := w.heap.size) (i := 1) (u := .slice AFS nFS cFS) (by omega))
   have LFS_16 := Lib.hid (LFS_15.out.set (b := w.heap.size) (i := 1) (u := .slice AFS nFS cFS) (by omega))
   have LWH_16 := Lib.hid (LWH_15.out.set (b := w.heap.size) (i := 1) (u := .slice AFS nFS cFS) (by omega))
   have P17' := Lib.hid (P16'.out.own (b := w.heap.size) (by omega) 2 (.slice AWH nWH cWH))
   have O17' := Lib.hid (O16'.out.own (b := w.heap.size) (by omega) 2 (.slice AWH nWH cWH))
   have Br_17 : Hid (Bx _ _ _ #[.string (ofL nm), .slice AFS nFS cFS, .slice AWH nWH cWH]) := Br_16.out.set 2 (.slice AWH nWH cWH)
   have Bx_17 := Lib.hid (Bx_16.out.other (c := w.heap.size) (i := 2) (u := .slice AWH nWH cWH) (by omega))
   have LFS_17 := Lib.hid (LFS_16.out.set (b := w.heap.size) (i := 2) (u := .slice AWH nWH cWH) (by omega))
   have LWH_17 := Lib.hid (LWH_16.out.set (b := w.heap.size) (i := 2) (u := .slice AWH nWH cWH) (by omega))
   refine bodyPost_ret (v := .agg #[.string (ofL nm), .slice AFS nFS cFS, .slice AWH nWH cWH]) (bx_ret Br_17.out Tryz.results135 _ rfl Tryz.underlying74 rfl (by kernel_rfl)) rfl ?_
   exact ⟨_, rfl, (LiesL.cons (.c _ rfl) (LiesL.cons (LFS_17.out.from (by omega)) (LiesL.cons (LWH_17.out.from (by omega)) (LiesL.nil _ _)))), P17'.out, O17'.out⟩
  | false =>
   have HF := Lib.hid (show fieldsP E s3 = sepP E [44] (fieldP E) s3 by unfold fieldsP; rw [if_neg (by simp [hb])])
   rw [HF.out] at HS4 HV4
   have HW := Lib.hid (show whereP E s5 = ([], (takeP E [119, 104, 101, 114, 101] s5).2) by unfold whereP; exact take_no hc)
   rw [HW.out] at HS6 HV6
   have HB := Lib.hid hb
   have HC := Lib.hid hc
   clear h hb hc hs1 hs2 hv2 hs3 hs4 hv4 hs5 hs6 hv6 hs7
   go_enter Tryz.func135, Tryz.ntmps135
   have P1' : Hid (Prs ((w).alloc oSynG0) g E _) := H.out.alloc _
   have O1' : Hid (Only g w ((w).alloc oSynG0)) := HO.out.alloc _
   have Br_1 : Hid (Bx ((w).alloc oSynG0) (w.heap.size) 74 #[.string ⟨#[]⟩, .slice none 0 0, .slice none 0 0]) := Bx.new2 (rfl)
   have P2' : Hid (Prs (((w).alloc oSynG0).alloc oSynG0) g E _) := P1'.out.alloc _
   have O2' : Hid (Only g w (((w).alloc oSynG0).alloc oSynG0)) := O1'.out.alloc _
   have Br_2 : Hid (Bx (((w).alloc oSynG0).alloc oSynG0) (w.heap.size) _ _) := Br_1.out.alloc _
   have Bx_2 : Hid (Bx (((w).alloc oSynG0).alloc oSynG0) (w.heap.size + 1) 74 #[.string ⟨#[]⟩, .slice none 0 0, .slice none 0 0]) := Bx.new2 (by simp only [size_alloc])
   go_wp2_with fail
   refine (pexpect_any P2'.out [109, 101, 115, 115, 97, 103, 101]).mono ?_; rintro e w3 ⟨rfl, P3, O3⟩
   rw [HS1.out] at P3
   have P3' := Lib.hid P3
   have O3' := Lib.hid (O2'.out.trans O3)
   have Br_3 := Lib.hid (Br_2.out.only O3 (by omega))
   have Bx_3 := Lib.hid (Bx_2.out.only O3 (by omega))
   have hz3 : w.heap.size + 2 ≤ w3.heap.size := by have := O3.size; simp only [size_alloc] at this; exact this
   clear P3 O3
   obtain ⟨cr_0, cr_1, cr_2⟩ := Br_3.out.k3
   obtain ⟨fr_0, fr_1, fr_2⟩ := Br_3.out.f3
   obtain ⟨cx_0, cx_1, cx_2⟩ := Bx_3.out.k3
   obtain ⟨fx_0, fx_1, fx_2⟩ := Bx_3.out.f3
   go_wp2_with fail
   refine (ppath_any P3'.out).mono ?_; rintro e w4 ⟨rfl, P4, O4⟩
   rw [HS2.out] at P4
   rw [HV2.out]
   have P4' := Lib.hid P4
   have O4' := Lib.hid (O3'.out.trans O4)
   have Br_4 := Lib.hid (Br_3.out.only O4 (by omega))
   have Bx_4 := Lib.hid (Bx_3.out.only O4 (by omega))
   have hz4 : w3.heap.size ≤ w4.heap.size := O4.size
   clear P4 O4
   clear cr_0 fr_0 cr_1 fr_1 cr_2 fr_2 cx_0 fx_0 cx_1 fx_1 cx_2 fx_2
   obtain ⟨cr_0, cr_1, cr_2⟩ := Br_4.out.k3
   obtain ⟨fr_0, fr_1, fr_2⟩ := Br_4.out.f3
   obtain ⟨cx_0, cx_1, cx_2⟩ := Bx_4.out.k3
   obtain ⟨fx_0, fx_1, fx_2⟩ := Bx_4.out.f3
   have P5' := Lib.hid (P4'.out.own (b := w.heap.size + 1) (by omega) 0 (.string (ofL nm)))
   have O5' := Lib.hid (O4'.out.own (b := w.heap.size + 1) (by omega) 0 (.string (ofL nm)))
   have Br_5 := Lib.hid (Br_4.out.other (c := w.heap.size + 1) (i := 0) (u := .string (ofL nm)) (by omega))
   have Bx_5 : Hid (Bx _ _ _ #[.string (ofL nm), .slice none 0 0, .slice none 0 0]) := Bx_4.out.set 0 (.string (ofL nm))
   go_wp2_with fail
   refine (pexpect_any P5'.out [40]).mono ?_; rintro e w6 ⟨rfl, P6, O6⟩
   rw [HS3.out] at P6
   have P6' := Lib.hid P6
   have O6' := Lib.hid (O5'.out.trans O6)
   have Br_6 := Lib.hid (Br_5.out.only O6 (by omega))
   have Bx_6 := Lib.hid (Bx_5.out.only O6 (by omega))
   have hz6 : w4.heap.size ≤ w6.heap.size := by have := O6.size; simp only [size_set] at this; exact this
   clear P6 O6
   clear cr_0 fr_0 cr_1 fr_1 cr_2 fr_2 cx_0 fx_0 cx_1 fx_1 cx_2 fx_2
   obtain ⟨cr_0, cr_1, cr_2⟩ := Br_6.out.k3
   obtain ⟨fr_0, fr_1, fr_2⟩ := Br_6.out.f3
   obtain ⟨cx_0, cx_1, cx_2⟩ := Bx_6.out.k3
   obtain ⟨fx_0, fx_1, fx_2⟩ := Bx_6.out.f3
   go_wp2_with fail
   refine (psees_any P6'.out [41]).mono ?_; rintro e w7 ⟨rfl, hb7⟩
   rw [HB.out]
   have O7 := (Only.refl g _).below hb7
   have P7 := P6'.out.below hb7 P6'.out.lt
   have P7' := Lib.hid P7
   have O7' := Lib.hid (O6'.out.trans O7)
   have Br_7 := Lib.hid (Br_6.out.only O7 (by omega))
   have Bx_7 := Lib.hid (Bx_6.out.only O7 (by omega))
   have hz7 : w6.heap.size ≤ w7.heap.size := O7.size
   clear P7 O7 hb7
   clear cr_0 fr_0 cr_1 fr_1 cr_2 fr_2 cx_0 fx_0 cx_1 fx_1 cx_2 fx_2
   obtain ⟨cr_0, cr_1, cr_2⟩ := Br_7.out.k3
   obtain ⟨fr_0, fr_1, fr_2⟩ := Br_7.out.f3
   obtain ⟨cx_0, cx_1, cx_2⟩ := Bx_7.out.k3
   obtain ⟨fx_0, fx_1, fx_2⟩ := Bx_7.out.f3
   go_wp2_with fail
   refine (sepField_any _ fieldP_dec (field_rd _) [44] P7'.out (Nat.le_refl _) P7'.out.small.len).mono ?_; rintro e w8 ⟨v, rfl, LV, P8, O8⟩
   obtain ⟨AFS, nFS, cFS, rfl, -⟩ := LV.slc
   rw [HV4.out] at LV
   rw [HS4.out] at P8
   have LFS_8 := Lib.hid (show Lies w8 (fun k => w7.heap.size ≤ k) (.slice AFS nFS cFS) (.s 4 (fs.flatMap dF)) from LV)
   have P8' := Lib.hid P8
   have O8' := Lib.hid (O7'.out.trans O8)
   have Br_8 := Lib.hid (Br_7.out.only O8 (by omega))
   have Bx_8 := Lib.hid (Bx_7.out.only O8 (by omega))
   have hz8 : w7.heap.size ≤ w8.heap.size := O8.size
   clear P8 O8 LV
   clear cr_0 fr_0 cr_1 fr_1 cr_2 fr_2 cx_0 fx_0 cx_1 fx_1 cx_2 fx_2
   obtain ⟨cr_0, cr_1, cr_2⟩ := Br_8.out.k3
   obtain ⟨fr_0, fr_1, fr_2⟩ := Br_8.out.f3
   obtain ⟨cx_0, cx_1, cx_2⟩ := Bx_8.out.k3
   obtain ⟨fx_0, fx_1, fx_2⟩ := Bx_8.out.f3
   have P9' := Lib.hid (P8'.out.own (b := w.heap.size + 1) (by omega) 1 (.slice AFS nFS cFS))
   have O9' := Lib.hid (O8'.out.own (b := w.heap.size + 1) (by omega) 1 (.slice AFS nFS cFS))
   have Br_9 := Lib.hid (Br_8.out.other (c := w.heap.size + 1) (i := 1) (u := .slice AFS nFS cFS) (by omega))
   have Bx_9 : Hid (Bx _ _ _ #[.string (ofL nm), .slice AFS nFS cFS, .slice none 0 0]) := Bx_8.out.set 1 (.slice AFS nFS cFS)
   have LFS_9 := Lib.hid (LFS_8.out.set (b := w.heap.size + 1) (i := 1) (u := .slice AFS nFS cFS) (by omega))
   go_wp2_with fail
   refine (pexpect_any P9'.out [41]).mono ?_; rintro e w10 ⟨rfl, P10, O10⟩
   rw [HS5.out] at P10
   have P10' := Lib.hid P10
   have O10' := Lib.hid (O9'.out.trans O10)
   have Br_10 := Lib.hid (Br_9.out.only O10 (by omega))
   have Bx_10 := Lib.hid (Bx_9.out.only O10 (by omega))
   have LFS_10 := Lib.hid (LFS_9.out.only O10 (by omega))
   have hz10 : w8.heap.size ≤ w10.heap.size := by have := O10.size; simp only [size_set] at this; exact this
   clear P10 O10
   clear cr_0 fr_0 cr_1 fr_1 cr_2 fr_2 cx_0 fx_0 cx_1 fx_1 cx_2 fx_2
   obtain ⟨cr_0, cr_1, cr_2⟩ := Br_10.out.k3
   obtain ⟨fr_0, fr_1, fr_2⟩ := Br_10.out.f3
   obtain ⟨cx_0, cx_1, cx_2⟩ := Bx_10.out.k3
   obtain ⟨fx_0, fx_1, fx_2⟩ := Bx_10.out.f3
   go_wp2_with fail
   refine (ptake_any P10'.out [119, 104, 101, 114, 101]).mono ?_; rintro e w11 ⟨rfl, P11, O11⟩
   rw [HC.out]
   have P11' := Lib.hid P11
   have O11' := Lib.hid (O10'.out.trans O11)
   have Br_11 := Lib.hid (Br_10.out.only O11 (by omega))
   have Bx_11 := Lib.hid (Bx_10.out.only O11 (by omega))
   have LFS_11 := Lib.hid (LFS_10.out.only O11 (by omega))
   have hz11 : w10.heap.size ≤ w11.heap.size := O11.size
   clear P11 O11
   clear cr_0 fr_0 cr_1 fr_1 cr_2 fr_2 cx_0 fx_0 cx_1 fx_1 cx_2 fx_2
   obtain ⟨cr_0, cr_1, cr_2⟩ := Br_11.out.k3
   obtain ⟨fr_0, fr_1, fr_2⟩ := Br_11.out.f3
   obtain ⟨cx_0, cx_1, cx_2⟩ := Bx_11.out.k3
   obtain ⟨fx_0, fx_1, fx_2⟩ := Bx_11.out.f3
   go_wp2_with fail
   have h56 : (takeP E [119, 104, 101, 114, 101] s5).2 = s6 := HS6.out
   have hwh : [] = wh := HV6.out
   subst hwh
   rw [h56] at P11'
   refine (pexpect_any P11'.out [59]).mono ?_; rintro e w12 ⟨rfl, P12, O12⟩
   rw [HS7.out] at P12
   have P12' := Lib.hid P12
   have O12' := Lib.hid (O11'.out.trans O12)
   have Br_12 := Lib.hid (Br_11.out.only O12 (by omega))
   have Bx_12 := Lib.hid (Bx_11.out.only O12 (by omega))
   have LFS_12 := Lib.hid (LFS_11.out.only O12 (by omega))
   have hz12 : w11.heap.size ≤ w12.heap.size := O12.size
   clear P12 O12
   clear cr_0 fr_0 cr_1 fr_1 cr_2 fr_2 cx_0 fx_0 cx_1 fx_1 cx_2 fx_2
   obtain ⟨cr_0, cr_1, cr_2⟩ := Br_12.out.k3
   obtain ⟨fr_0, fr_1, fr_2⟩ := Br_12.out.f3
   obtain ⟨cx_0, cx_1, cx_2⟩ := Bx_12.out.k3
   obtain ⟨fx_0, fx_1, fx_2⟩ := Bx_12.out.f3
   go_wp2_with fail
   have P13' := Lib.hid (P12'.out.own (b := w.heap.size) (by omega) 0 (.string (ofL nm)))
   have O13' := Lib.hid (O12'.out.own (b := w.heap.size) (by omega) 0 (.string (ofL nm)))
   have Br_13 : Hid (Bx _ _ _ #[.string (ofL nm), .slice none 0 0, .slice none 0 0]) := Br_12.out.set 0 (.string (ofL nm))
   have Bx_13 := Lib.hid (Bx_12.out.other (c := w.heap.size) (i := 0) (u := .string (ofL nm)) (by omega))
   have LFS_13 := Lib.hid (LFS_12.out.set (b := w.heap.size) (i := 0) (u := .string (ofL nm)) (by omega))
   have P14' := Lib.hid (P13'.out.own (b := w.heap.size) (by omega) 1 (.slice AFS nFS cFS))
   have O14' := Lib.hid (O13'.out.own (b := w.heap.size) (by omega) 1 (.slice AFS nFS cFS))
   have Br_14 : Hid (Bx _ _ _ #[.string (ofL nm), .slice AFS nFS cFS, .slice none 0 0]) := Br_13.out.set 1 (.slice AFS nFS cFS)
   have Bx_14 := Lib.hid (Bx_13.out.other (c := w.heap.size) (i := 1) (u := .slice AFS nFS cFS) (by omega))
   have LFS_14 := Lib.hid (LFS_13.out.set (b := w.heap.size) (i := 1) (u := .slice AFS nFS cFS) (by omega))
   have P15' := Lib.hid (P14'.out.own (b := w.heap.size) (by omega) 2 (.slice none 0 0))
   have O15' := Lib.hid (O14'.out.own (b := w.heap.size) (by omega) 2 (.slice none 0 0))
   have Br_15 : Hid (Bx _ _ _ #[.string (ofL nm), .slice AFS nFS cFS, .slice none 0 0]) := Br_14.out.set 2 (.slice none 0 0)
   have Bx_15 := Lib.hid (Bx_14.out.other (c := w.heap.size) (i := 2) (u := .slice none 0 0) (by omega))
   have LFS_15 := Lib.hid (LFS_14.out.set (b := w.heap.size) (i := 2) (u := .slice none 0 0) (by omega))
   refine bodyPost_ret (v := .agg #[.string (ofL nm), .slice AFS nFS cFS, .slice none 0 0]) (bx_ret Br_15.out Tryz.results135 _ rfl Tryz.underlying74 rfl (by kernel_rfl)) rfl ?_
   exact ⟨_, rfl, (LiesL.cons (.c _ rfl) (LiesL.cons (LFS_15.out.from (by omega)) (LiesL.cons (.nil _) (LiesL.nil _ _)))), P15'.out, O15'.out⟩
end
end Go.Proofs.YtekpefcggikcbaaGreatDoor
