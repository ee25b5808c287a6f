/- Layer 10: the contracts of the parser's methods that fill structs: term, atom. -/
import Derived.Test.YtekpefcggikcbaaGreatDoorMSynU
namespace Go.Proofs.YtekpefcggikcbaaGreatDoor
/- Layer 10: the contracts of the parser's methods that fill structs: term, atom. -/
open Go.RowKit
abbrev oSynO0 : Obj := .cells #[.int .i64 0, .string ⟨#[]⟩, .string ⟨#[]⟩, .int .i64 0] 98

section
variable {w w' : World} {g E : Nat} {s : St}
set_option maxRecDepth 20000 in
set_option maxHeartbeats 800000 in
theorem pterm_any (h : Prs w g E s) : Calls Tryz.prog 224 #[.pointer (some ⟨g, 0, none⟩)] w (Got w g E (termP E s).2 (vT (termP E s).1)) := by
 obtain ⟨s1, hs1⟩ : ∃ s1, (takeP E [108, 101, 110] s).2 = s1 := ⟨_, rfl⟩
 have HS1 := Lib.hid hs1
 have H := Lib.hid h
 have hlt := h.lt
 have HO := Lib.hid (Only.refl g w)
 cases hb : (takeP E [108, 101, 110] s).1 with
 | true =>
  obtain ⟨s2, hs2⟩ : ∃ s2, (expectP E [40] s1).2 = s2 := ⟨_, rfl⟩
  have HS2 := Lib.hid hs2
  obtain ⟨s3, hs3⟩ : ∃ s3, (varP E s2).2 = s3 := ⟨_, rfl⟩
  have HS3 := Lib.hid hs3
  obtain ⟨x, hv3⟩ : ∃ x, (varP E s2).1 = x := ⟨_, rfl⟩
  have HV3 := Lib.hid hv3
  obtain ⟨s4, hs4⟩ : ∃ s4, (expectP E [41] s3).2 = s4 := ⟨_, rfl⟩
  have HS4 := Lib.hid hs4
  obtain ⟨s5, hs5⟩ : ∃ s5, (addedP E s4).2 = s5 := ⟨_, rfl⟩
  have HS5 := Lib.hid hs5
  obtain ⟨n, hv5⟩ : ∃ n, (addedP E s4).1 = n := ⟨_, rfl⟩
  have HV5 := Lib.hid hv5
  have HR := Lib.hid (show termP E s = (⟨3, x.1, x.2, n⟩, s5) by unfold termP; refine (take_yes hb).trans ?_; subst hs1; subst hs2; subst hs3; subst hs4; subst hs5; subst hv3; subst hv5; rfl)
  rw [HR.out]
  have HB := Lib.hid hb
  clear h hb hs1 hs2 hs3 hs4 hs5 hv3 hv5
  go_enter Tryz.func224, Tryz.ntmps224
  have P1' : Hid (Prs ((w).alloc oSynO0) g E _) := H.out.alloc _
  have O1' : Hid (Only g w ((w).alloc oSynO0)) := HO.out.alloc _
  have Br_1 : Hid (Bx ((w).alloc oSynO0) (w.heap.size) 98 #[.int .i64 0, .string ⟨#[]⟩, .string ⟨#[]⟩, .int .i64 0]) := Bx.new2 (rfl)
  go_wp2_with fail
  refine (ptake_any P1'.out [108, 101, 110]).mono ?_; rintro e w2 ⟨rfl, P2, O2⟩
  rw [HS1.out] at P2
  rw [HB.out]
  have P2' := Lib.hid P2
  have O2' := Lib.hid (O1'.out.trans O2)
  have Br_2 := Lib.hid (Br_1.out.only O2 (by omega))
  have hz2 : w.heap.size + 1 ≤ w2.heap.size := by have := O2.size; simp only [size_alloc] at this; exact this
  clear P2 O2
  go_wp2_with fail
  refine (pexpect_any P2'.out [40]).mono ?_; rintro e w3 ⟨rfl, P3, O3⟩
  rw [HS2.out] at P3
  have P3' := Lib.hid P3
  have O3' := Lib.hid (O2'.out.trans O3)
  have Br_3 := Lib.hid (Br_2.out.only O3 (by omega))
  have hz3 : w2.heap.size ≤ w3.heap.size := O3.size
  clear P3 O3
  go_wp2_with fail
  refine (pvariable_any P3'.out).mono ?_; rintro e w4 ⟨rfl, P4, O4⟩
  rw [HS3.out] at P4
  rw [HV3.out]
  have P4' := Lib.hid P4
  have O4' := Lib.hid (O3'.out.trans O4)
  have Br_4 := Lib.hid (Br_3.out.only O4 (by omega))
  have hz4 : w3.heap.size ≤ w4.heap.size := O4.size
  clear P4 O4
  go_wp2_with fail
  refine (pexpect_any P4'.out [41]).mono ?_; rintro e w5 ⟨rfl, P5, O5⟩
  rw [HS4.out] at P5
  have P5' := Lib.hid P5
  have O5' := Lib.hid (O4'.out.trans O5)
  have Br_5 := Lib.hid (Br_4.out.only O5 (by omega))
  have hz5 : w4.heap.size ≤ w5.heap.size := O5.size
  clear P5 O5
  go_wp2_with fail
  refine (padded_any P5'.out).mono ?_; rintro e w6 ⟨rfl, P6, O6⟩
  rw [HS5.out] at P6
  rw [HV5.out]
  have P6' := Lib.hid P6
  have O6' := Lib.hid (O5'.out.trans O6)
  have Br_6 := Lib.hid (Br_5.out.only O6 (by omega))
  have hz6 : w5.heap.size ≤ w6.heap.size := O6.size
  clear P6 O6
  obtain ⟨cr_0, cr_1, cr_2, cr_3⟩ := Br_6.out.k4
  obtain ⟨fr_0, fr_1, fr_2, fr_3⟩ := Br_6.out.f4
  go_wp2_with fail
  have P7' := Lib.hid (P6'.out.own (b := w.heap.size) (by omega) 0 (.int .i64 3))
  have O7' := Lib.hid (O6'.out.own (b := w.heap.size) (by omega) 0 (.int .i64 3))
  have Br_7 : Hid (Bx _ _ _ #[.int .i64 3, .string ⟨#[]⟩, .string ⟨#[]⟩, .int .i64 0]) := Br_6.out.set 0 (.int .i64 3)
  have P8' := Lib.hid (P7'.out.own (b := w.heap.size) (by omega) 1 (.string (ofL x.1)))
  have O8' := Lib.hid (O7'.out.own (b := w.heap.size) (by omega) 1 (.string (ofL x.1)))
  have Br_8 : Hid (Bx _ _ _ #[.int .i64 3, .string (ofL x.1), .string ⟨#[]⟩, .int .i64 0]) := Br_7.out.set 1 (.string (ofL x.1))
  have P9' := Lib.hid (P8'.out.own (b := w.heap.size) (by omega) 2 (.string (ofL x.2)))
  have O9' := Lib.hid (O8'.out.own (b := w.heap.size) (by omega) 2 (.string (ofL x.2)))
  have Br_9 : Hid (Bx _ _ _ #[.int .i64 3, .string (ofL x.1), .string (ofL x.2), .int .i64 0]) := Br_8.out.set 2 (.string (ofL x.2))
  have P10' := Lib.hid (P9'.out.own (b := w.heap.size) (by omega) 3 (.int .i64 n))
  have O10' := Lib.hid (O9'.out.own (b := w.heap.size) (by omega) 3 (.int .i64 n))
  have Br_10 : Hid (Bx _ _ _ #[.int .i64 3, .string (ofL x.1), .string (ofL x.2), .int .i64 n]) := Br_9.out.set 3 (.int .i64 n)
  refine bodyPost_ret (v := .agg #[.int .i64 3, .string (ofL x.1), .string (ofL x.2), .int .i64 n]) (bx_ret Br_10.out Tryz.results224 _ rfl Tryz.underlying98 rfl (by kernel_rfl)) rfl ?_
  exact ⟨rfl, P10'.out, O10'.out⟩
 | false =>
  have HB := Lib.hid hb
  obtain ⟨t, ht⟩ : ∃ t, nextT E s1 = t := ⟨_, rfl⟩
  have HT := Lib.hid ht
  by_cases hk : t.k = 1
  ·have e4 : ((t.k : Int) == 1) = true := by simp; omega
   obtain ⟨s2, hs2⟩ : ∃ s2, (varP E s1).2 = s2 := ⟨_, rfl⟩
   have HS2 := Lib.hid hs2
   obtain ⟨x, hv2⟩ : ∃ x, (varP E s1).1 = x := ⟨_, rfl⟩
   have HV2 := Lib.hid hv2
   obtain ⟨s3, hs3⟩ : ∃ s3, (addedP E s2).2 = s3 := ⟨_, rfl⟩
   have HS3 := Lib.hid hs3
   obtain ⟨n, hv3⟩ : ∃ n, (addedP E s2).1 = n := ⟨_, rfl⟩
   have HV3 := Lib.hid hv3
   have HR := Lib.hid (show termP E s = (⟨2, x.1, x.2, n⟩, s3) by unfold termP; refine (take_no hb).trans ?_; rw [hs1]; show (if (nextT E s1).k = 1 then _ else _) = _; rw [if_pos (by rw [ht]; exact hk)]; subst hs2; subst hs3; subst hv2; subst hv3; rfl)
   rw [HR.out]
   clear h hb hk ht hs1 hs2 hs3 hv2 hv3
   go_enter Tryz.func224, Tryz.ntmps224
   have P1' : Hid (Prs ((w).alloc oSynO0) g E _) := H.out.alloc _
   have O1' : Hid (Only g w ((w).alloc oSynO0)) := HO.out.alloc _
   have Br_1 : Hid (Bx ((w).alloc oSynO0) (w.heap.size) 98 #[.int .i64 0, .string ⟨#[]⟩, .string ⟨#[]⟩, .int .i64 0]) := Bx.new2 (rfl)
   go_wp2_with fail
   refine (ptake_any P1'.out [108, 101, 110]).mono ?_; rintro e w2 ⟨rfl, P2, O2⟩
   rw [HS1.out] at P2
   rw [HB.out]
   have P2' := Lib.hid P2
   have O2' := Lib.hid (O1'.out.trans O2)
   have Br_2 := Lib.hid (Br_1.out.only O2 (by omega))
   have hz2 : w.heap.size + 1 ≤ w2.heap.size := by have := O2.size; simp only [size_alloc] at this; exact this
   clear P2 O2
   go_wp2_with fail
   refine (pnext_any P2'.out).mono ?_; rintro e w3 ⟨rfl, hb3⟩
   rw [HT.out]
   unfold tokA
   have O3 := (Only.refl g _).below hb3
   have P3 := P2'.out.below hb3 P2'.out.lt
   have P3' := Lib.hid P3
   have O3' := Lib.hid (O2'.out.trans O3)
   have Br_3 := Lib.hid (Br_2.out.only O3 (by omega))
   have hz3 : w2.heap.size ≤ w3.heap.size := O3.size
   clear P3 O3 hb3
   have hfl := fld_tok0
   go_wp2_with fail
   refine (pvariable_any P3'.out).mono ?_; rintro e w4 ⟨rfl, P4, O4⟩
   rw [HS2.out] at P4
   rw [HV2.out]
   have P4' := Lib.hid P4
   have O4' := Lib.hid (O3'.out.trans O4)
   have Br_4 := Lib.hid (Br_3.out.only O4 (by omega))
   have hz4 : w3.heap.size ≤ w4.heap.size := O4.size
   clear P4 O4
   go_wp2_with fail
   refine (padded_any P4'.out).mono ?_; rintro e w5 ⟨rfl, P5, O5⟩
   rw [HS3.out] at P5
   rw [HV3.out]
   have P5' := Lib.hid P5
   have O5' := Lib.hid (O4'.out.trans O5)
   have Br_5 := Lib.hid (Br_4.out.only O5 (by omega))
   have hz5 : w4.heap.size ≤ w5.heap.size := O5.size
   clear P5 O5
   obtain ⟨cr_0, cr_1, cr_2, cr_3⟩ := Br_5.out.k4
   obtain ⟨fr_0, fr_1, fr_2, fr_3⟩ := Br_5.out.f4
   go_wp2_with fail
   have P6' := Lib.hid (P5'.out.own (b := w.heap.size) (by omega) 0 (.int .i64 2))
   have O6' := Lib.hid (O5'.out.own (b := w.heap.size) (by omega) 0 (.int .i64 2))
   have Br_6 : Hid (Bx _ _ _ #[.int .i64 2, .string ⟨#[]⟩, .string ⟨#[]⟩, .int .i64 0]) := Br_5.out.set 0 (.int .i64 2)
   have P7' := Lib.hid (P6'.out.own (b := w.heap.size) (by omega) 1 (.string (ofL x.1)))
   have O7' := Lib.hid (O6'.out.own (b := w.heap.size) (by omega) 1 (.string (ofL x.1)))
   have Br_7 : Hid (Bx _ _ _ #[.int .i64 2, .string (ofL x.1), .string ⟨#[]⟩, .int .i64 0]) := Br_6.out.set 1 (.string (ofL x.1))
   have P8' := Lib.hid (P7'.out.own (b := w.heap.size) (by omega) 2 (.string (ofL x.2)))
   have O8' := Lib.hid (O7'.out.own (b := w.heap.size) (by omega) 2 (.string (ofL x.2)))
   have Br_8 : Hid (Bx _ _ _ #[.int .i64 2, .string (ofL x.1), .string (ofL x.2), .int .i64 0]) := Br_7.out.set 2 (.string (ofL x.2))
   have P9' := Lib.hid (P8'.out.own (b := w.heap.size) (by omega) 3 (.int .i64 n))
   have O9' := Lib.hid (O8'.out.own (b := w.heap.size) (by omega) 3 (.int .i64 n))
   have Br_9 : Hid (Bx _ _ _ #[.int .i64 2, .string (ofL x.1), .string (ofL x.2), .int .i64 n]) := Br_8.out.set 3 (.int .i64 n)
   refine bodyPost_ret (v := .agg #[.int .i64 2, .string (ofL x.1), .string (ofL x.2), .int .i64 n]) (bx_ret Br_9.out Tryz.results224 _ rfl Tryz.underlying98 rfl (by kernel_rfl)) rfl ?_
   exact ⟨rfl, P9'.out, O9'.out⟩
  ·have e4 : ((t.k : Int) == 1) = false := by simp; omega
   obtain ⟨s2, hs2⟩ : ∃ s2, (signedP E s1).2 = s2 := ⟨_, rfl⟩
   have HS2 := Lib.hid hs2
   obtain ⟨n, hv2⟩ : ∃ n, (signedP E s1).1 = n := ⟨_, rfl⟩
   have HV2 := Lib.hid hv2
   have HR := Lib.hid (show termP E s = (⟨1, [], [], n⟩, s2) by unfold termP; refine (take_no hb).trans ?_; rw [hs1]; show (if (nextT E s1).k = 1 then _ else _) = _; rw [if_neg (by rw [ht]; exact hk)]; subst hs2; subst hv2; rfl)
   rw [HR.out]
   clear h hb hk ht hs1 hs2 hv2
   go_enter Tryz.func224, Tryz.ntmps224
   have P1' : Hid (Prs ((w).alloc oSynO0) g E _) := H.out.alloc _
   have O1' : Hid (Only g w ((w).alloc oSynO0)) := HO.out.alloc _
   have Br_1 : Hid (Bx ((w).alloc oSynO0) (w.heap.size) 98 #[.int .i64 0, .string ⟨#[]⟩, .string ⟨#[]⟩, .int .i64 0]) := Bx.new2 (rfl)
   go_wp2_with fail
   refine (ptake_any P1'.out [108, 101, 110]).mono ?_; rintro e w2 ⟨rfl, P2, O2⟩
   rw [HS1.out] at P2
   rw [HB.out]
   have P2' := Lib.hid P2
   have O2' := Lib.hid (O1'.out.trans O2)
   have Br_2 := Lib.hid (Br_1.out.only O2 (by omega))
   have hz2 : w.heap.size + 1 ≤ w2.heap.size := by have := O2.size; simp only [size_alloc] at this; exact this
   clear P2 O2
   go_wp2_with fail
   refine (pnext_any P2'.out).mono ?_; rintro e w3 ⟨rfl, hb3⟩
   rw [HT.out]
   unfold tokA
   have O3 := (Only.refl g _).below hb3
   have P3 := P2'.out.below hb3 P2'.out.lt
   have P3' := Lib.hid P3
   have O3' := Lib.hid (O2'.out.trans O3)
   have Br_3 := Lib.hid (Br_2.out.only O3 (by omega))
   have hz3 : w2.heap.size ≤ w3.heap.size := O3.size
   clear P3 O3 hb3
   have hfl := fld_tok0
   go_wp2_with fail
   refine (psigned_any P3'.out).mono ?_; rintro e w4 ⟨rfl, P4, O4⟩
   rw [HS2.out] at P4
   rw [HV2.out]
   have P4' := Lib.hid P4
   have O4' := Lib.hid (O3'.out.trans O4)
   have Br_4 := Lib.hid (Br_3.out.only O4 (by omega))
   have hz4 : w3.heap.size ≤ w4.heap.size := O4.size
   clear P4 O4
   obtain ⟨cr_0, cr_1, cr_2, cr_3⟩ := Br_4.out.k4
   obtain ⟨fr_0, fr_1, fr_2, fr_3⟩ := Br_4.out.f4
   go_wp2_with fail
   have P5' := Lib.hid (P4'.out.own (b := w.heap.size) (by omega) 0 (.int .i64 1))
   have O5' := Lib.hid (O4'.out.own (b := w.heap.size) (by omega) 0 (.int .i64 1))
   have Br_5 : Hid (Bx _ _ _ #[.int .i64 1, .string ⟨#[]⟩, .string ⟨#[]⟩, .int .i64 0]) := Br_4.out.set 0 (.int .i64 1)
   have P6' := Lib.hid (P5'.out.own (b := w.heap.size) (by omega) 1 (.string ⟨#[]⟩))
   have O6' := Lib.hid (O5'.out.own (b := w.heap.size) (by omega) 1 (.string ⟨#[]⟩))
   have Br_6 : Hid (Bx _ _ _ #[.int .i64 1, .string ⟨#[]⟩, .string ⟨#[]⟩, .int .i64 0]) := Br_5.out.set 1 (.string ⟨#[]⟩)
   have P7' := Lib.hid (P6'.out.own (b := w.heap.size) (by omega) 2 (.string ⟨#[]⟩))
   have O7' := Lib.hid (O6'.out.own (b := w.heap.size) (by omega) 2 (.string ⟨#[]⟩))
   have Br_7 : Hid (Bx _ _ _ #[.int .i64 1, .string ⟨#[]⟩, .string ⟨#[]⟩, .int .i64 0]) := Br_6.out.set 2 (.string ⟨#[]⟩)
   have P8' := Lib.hid (P7'.out.own (b := w.heap.size) (by omega) 3 (.int .i64 n))
   have O8' := Lib.hid (O7'.out.own (b := w.heap.size) (by omega) 3 (.int .i64 n))
   have Br_8 : Hid (Bx _ _ _ #[.int .i64 1, .string ⟨#[]⟩, .string ⟨#[]⟩, .int .i64 n]) := Br_7.out.set 3 (.int .i64 n)
   refine bodyPost_ret (v := .agg #[.int .i64 1, .string ⟨#[]⟩, .string ⟨#[]⟩, .int .i64 n]) (bx_ret Br_8.out Tryz.results224 _ rfl Tryz.underlying98 rfl (by kernel_rfl)) rfl ?_
   exact ⟨rfl, P8'.out, O8'.out⟩
set_option maxRecDepth 20000 in
set_option maxHeartbeats 800000 in
theorem patom_any (h : Prs w g E s) : Calls Tryz.prog 197 #[.pointer (some ⟨g, 0, none⟩)] w (Got w g E (atomP E s).2 (vA (atomP E s).1)) := by
 have H := Lib.hid h
 have hlt := h.lt
 have HO := Lib.hid (Only.refl g w)
 obtain ⟨s1, hs1⟩ : ∃ s1, (termP E s).2 = s1 := ⟨_, rfl⟩
 obtain ⟨l, hv1⟩ : ∃ l, (termP E s).1 = l := ⟨_, rfl⟩
 obtain ⟨s2, hs2⟩ : ∃ s2, (opP E s1).2 = s2 := ⟨_, rfl⟩
 obtain ⟨op, hv2⟩ : ∃ op, (opP E s1).1 = op := ⟨_, rfl⟩
 obtain ⟨s3, hs3⟩ : ∃ s3, (termP E s2).2 = s3 := ⟨_, rfl⟩
 obtain ⟨r, hv3⟩ : ∃ r, (termP E s2).1 = r := ⟨_, rfl⟩
 have HR := Lib.hid (show atomP E s = ((⟨l, op, r⟩ : Am), s3) by subst hs1; subst hv1; subst hs2; subst hv2; subst hs3; subst hv3;  rfl)
 rw [HR.out]
 have HS1 := Lib.hid hs1
 have HV1 := Lib.hid hv1
 have HS2 := Lib.hid hs2
 have HV2 := Lib.hid hv2
 have HS3 := Lib.hid hs3
 have HV3 := Lib.hid hv3
 clear hs1 hv1 hs2 hv2 hs3 hv3
 clear h
 go_enter Tryz.func197, Tryz.ntmps197
 have P1' : Hid (Prs ((w).alloc (.cells #[.int .i64 0, .string ⟨#[]⟩, .string ⟨#[]⟩, .int .i64 0, .string ⟨#[]⟩, .int .i64 0, .string ⟨#[]⟩, .string ⟨#[]⟩, .int .i64 0] 100)) g E _) := H.out.alloc _
 have O1' : Hid (Only g w ((w).alloc (.cells #[.int .i64 0, .string ⟨#[]⟩, .string ⟨#[]⟩, .int .i64 0, .string ⟨#[]⟩, .int .i64 0, .string ⟨#[]⟩, .string ⟨#[]⟩, .int .i64 0] 100))) := HO.out.alloc _
 have Br_1 : Hid (Bx ((w).alloc (.cells #[.int .i64 0, .string ⟨#[]⟩, .string ⟨#[]⟩, .int .i64 0, .string ⟨#[]⟩, .int .i64 0, .string ⟨#[]⟩, .string ⟨#[]⟩, .int .i64 0] 100)) (w.heap.size) 100 #[.int .i64 0, .string ⟨#[]⟩, .string ⟨#[]⟩, .int .i64 0, .string ⟨#[]⟩, .int .i64 0, .string ⟨#[]⟩, .string ⟨#[]⟩, .int .i64 0]) := Bx.new2 (rfl)
 go_wp2_with fail
 refine (pterm_any P1'.out).mono ?_; rintro e w2 ⟨rfl, P2, O2⟩
 rw [HS1.out] at P2
 rw [HV1.out]
 unfold vT
 have P2' := Lib.hid P2
 have O2' := Lib.hid (O1'.out.trans O2)
 have Br_2 := Lib.hid (Br_1.out.only O2 (by omega))
 have hz2 : w.heap.size + 1 ≤ w2.heap.size := by have := O2.size; simp only [size_alloc] at this; exact this
 clear P2 O2
 have P3' : Hid (Prs ((w2).alloc (.cells #[.int .i64 l.k, .string (ofL l.m), .string (ofL l.f), .int .i64 l.n] 98)) g E _) := P2'.out.alloc _
 have O3' : Hid (Only g w ((w2).alloc (.cells #[.int .i64 l.k, .string (ofL l.m), .string (ofL l.f), .int .i64 l.n] 98))) := O2'.out.alloc _
 have Br_3 : Hid (Bx ((w2).alloc (.cells #[.int .i64 l.k, .string (ofL l.m), .string (ofL l.f), .int .i64 l.n] 98)) (w.heap.size) _ _) := Br_2.out.alloc _
 have Bx_3 : Hid (Bx ((w2).alloc (.cells #[.int .i64 l.k, .string (ofL l.m), .string (ofL l.f), .int .i64 l.n] 98)) (w2.heap.size) 98 #[.int .i64 l.k, .string (ofL l.m), .string (ofL l.f), .int .i64 l.n]) := Bx.new2 (rfl)
 go_wp2_with fail
 refine (pop_any P3'.out).mono ?_; rintro e w4 ⟨rfl, P4, O4⟩
 rw [HS2.out] at P4
 rw [HV2.out]
 have P4' := Lib.hid P4
 have O4' := Lib.hid (O3'.out.trans O4)
 have Br_4 := Lib.hid (Br_3.out.only O4 (by omega))
 have Bx_4 := Lib.hid (Bx_3.out.only O4 (by omega))
 have hz4 : w2.heap.size + 1 ≤ w4.heap.size := by have := O4.size; simp only [size_alloc] at this; exact this
 clear P4 O4
 go_wp2_with fail
 refine (pterm_any P4'.out).mono ?_; rintro e w5 ⟨rfl, P5, O5⟩
 rw [HS3.out] at P5
 rw [HV3.out]
 unfold vT
 have P5' := Lib.hid P5
 have O5' := Lib.hid (O4'.out.trans O5)
 have Br_5 := Lib.hid (Br_4.out.only O5 (by omega))
 have Bx_5 := Lib.hid (Bx_4.out.only O5 (by omega))
 have hz5 : w4.heap.size ≤ w5.heap.size := O5.size
 clear P5 O5
 have P6' : Hid (Prs ((w5).alloc (.cells #[.int .i64 r.k, .string (ofL r.m), .string (ofL r.f), .int .i64 r.n] 98)) g E _) := P5'.out.alloc _
 have O6' : Hid (Only g w ((w5).alloc (.cells #[.int .i64 r.k, .string (ofL r.m), .string (ofL r.f), .int .i64 r.n] 98))) := O5'.out.alloc _
 have Br_6 : Hid (Bx ((w5).alloc (.cells #[.int .i64 r.k, .string (ofL r.m), .string (ofL r.f), .int .i64 r.n] 98)) (w.heap.size) _ _) := Br_5.out.alloc _
 have Bx_6 : Hid (Bx ((w5).alloc (.cells #[.int .i64 r.k, .string (ofL r.m), .string (ofL r.f), .int .i64 r.n] 98)) (w2.heap.size) _ _) := Bx_5.out.alloc _
 have By_6 : Hid (Bx ((w5).alloc (.cells #[.int .i64 r.k, .string (ofL r.m), .string (ofL r.f), .int .i64 r.n] 98)) (w5.heap.size) 98 #[.int .i64 r.k, .string (ofL r.m), .string (ofL r.f), .int .i64 r.n]) := Bx.new2 (rfl)
 obtain ⟨cr_0, cr_1, cr_2, cr_3, cr_4, cr_5, cr_6, cr_7, cr_8⟩ := Br_6.out.k9
 obtain ⟨fr_0, fr_1, fr_2, fr_3, fr_4, fr_5, fr_6, fr_7, fr_8⟩ := Br_6.out.f9
 obtain ⟨cx_0, cx_1, cx_2, cx_3⟩ := Bx_6.out.k4
 obtain ⟨fx_0, fx_1, fx_2, fx_3⟩ := Bx_6.out.f4
 obtain ⟨cy_0, cy_1, cy_2, cy_3⟩ := By_6.out.k4
 obtain ⟨fy_0, fy_1, fy_2, fy_3⟩ := By_6.out.f4
 go_wp2_with fail
 have P7' := Lib.hid (P6'.out.own (b := w.heap.size) (by omega) 0 (.int .i64 l.k))
 have O7' := Lib.hid (O6'.out.own (b := w.heap.size) (by omega) 0 (.int .i64 l.k))
 have Br_7 : Hid (Bx _ _ _ #[.int .i64 l.k, .string ⟨#[]⟩, .string ⟨#[]⟩, .int .i64 0, .string ⟨#[]⟩, .int .i64 0, .string ⟨#[]⟩, .string ⟨#[]⟩, .int .i64 0]) := Br_6.out.set 0 (.int .i64 l.k)
 have Bx_7 := Lib.hid (Bx_6.out.other (c := w.heap.size) (i := 0) (u := .int .i64 l.k) (by omega))
 have By_7 := Lib.hid (By_6.out.other (c := w.heap.size) (i := 0) (u := .int .i64 l.k) (by omega))
 have P8' := Lib.hid (P7'.out.own (b := w.heap.size) (by omega) 1 (.string (ofL l.m)))
 have O8' := Lib.hid (O7'.out.own (b := w.heap.size) (by omega) 1 (.string (ofL l.m)))
 have Br_8 : Hid (Bx _ _ _ #[.int .i64 l.k, .string (ofL l.m), .string ⟨#[]⟩, .int .i64 0, .string ⟨#[]⟩, .int .i64 0, .string ⟨#[]⟩, .string ⟨#[]⟩, .int .i64 0]) := Br_7.out.set 1 (.string (ofL l.m))
 have Bx_8 := Lib.hid (Bx_7.out.other (c := w.heap.size) (i := 1) (u := .string (ofL l.m)) (by omega))
 have By_8 := Lib.hid (By_7.out.other (c := w.heap.size) (i := 1) (u := .string (ofL l.m)) (by omega))
 have P9' := Lib.hid (P8'.out.own (b := w.heap.size) (by omega) 2 (.string (ofL l.f)))
 have O9' := Lib.hid (O8'.out.own (b := w.heap.size) (by omega) 2 (.string (ofL l.f)))
 have Br_9 : Hid (Bx _ _ _ #[.int .i64 l.k, .string (ofL l.m), .string (ofL l.f), .int .i64 0, .string ⟨#[]⟩, .int .i64 0, .string ⟨#[]⟩, .string ⟨#[]⟩, .int .i64 0]) := Br_8.out.set 2 (.string (ofL l.f))
 have Bx_9 := Lib.hid (Bx_8.out.other (c := w.heap.size) (i := 2) (u := .string (ofL l.f)) (by omega))
 have By_9 := Lib.hid (By_8.out.other (c := w.heap.size) (i := 2) (u := .string (ofL l.f)) (by omega))
 have P10' := Lib.hid (P9'.out.own (b := w.heap.size) (by omega) 3 (.int .i64 l.n))
 have O10' := Lib.hid (O9'.out.own (b := w.heap.size) (by omega) 3 (.int .i64 l.n))
 have Br_10 : Hid (Bx _ _ _ #[.int .i64 l.k, .string (ofL l.m), .string (ofL l.f), .int .i64 l.n, .string ⟨#[]⟩, .int .i64 0, .string ⟨#[]⟩, .string ⟨#[]⟩, .int .i64 0]) := Br_9.out.set 3 (.int .i64 l.n)
 have Bx_10 := Lib.hid (Bx_9.out.other (c := w.heap.size) (i := 3) (u := .int .i64 l.n) (by omega))
 have By_10 := Lib.hid (By_9.out.other (c := w.heap.size) (i := 3) (u := .int .i64 l.n) (by omega))
 have P11' := Lib.hid (P10'.out.own (b := w.heap.size) (by omega) 4 (.string (ofL op)))
 have O11' := Lib.hid (O10'.out.own (b := w.heap.size) (by omega) 4 (.string (ofL op)))
 have Br_11 : Hid (Bx _ _ _ #[.int .i64 l.k, .string (ofL l.m), .string (ofL l.f), .int .i64 l.n, .string (ofL op), .int .i64 0, .string ⟨#[]⟩, .string ⟨#[]⟩, .int .i64 0]) := Br_10.out.set 4 (.string (ofL op))
 have Bx_11 := Lib.hid (Bx_10.out.other (c := w.heap.size) (i := 4) (u := .string (ofL op)) (by omega))
 have By_11 := Lib.hid (By_10.out.other (c := w.heap.size) (i := 4) (u := .string (ofL op)) (by omega))
 have P12' := Lib.hid (P11'.out.own (b := w.heap.size) (by omega) 5 (.int .i64 r.k))
 have O12' := Lib.hid (O11'.out.own (b := w.heap.size) (by omega) 5 (.int .i64 r.k))
 have Br_12 : Hid (Bx _ _ _ #[.int .i64 l.k, .string (ofL l.m), .string (ofL l.f), .int .i64 l.n, .string (ofL op), .int .i64 r.k, .string ⟨#[]⟩, .string ⟨#[]⟩, .int .i64 0]) := Br_11.out.set 5 (.int .i64 r.k)
 have Bx_12 := Lib.hid (Bx_11.out.other (c := w.heap.size) (i := 5) (u := .int .i64 r.k) (by omega))
 have By_12 := Lib.hid (By_11.out.other (c := w.heap.size) (i := 5) (u := .int .i64 r.k) (by omega))
 have P13' := Lib.hid (P12'.out.own (b := w.heap.size) (by omega) 6 (.string (ofL r.m)))
 have O13' := Lib.hid (O12'.out.own (b := w.heap.size) (by omega) 6 (.string (ofL r.m)))
 have Br_13 : Hid (Bx _ _ _ #[.int .i64 l.k, .string (ofL l.m), .string (ofL l.f), .int .i64 l.n, .string (ofL op), .int .i64 r.k, .string (ofL r.m), .string ⟨#[]⟩, .int .i64 0]) := Br_12.out.set 6 (.string (ofL r.m))
 have Bx_13 := Lib.hid (Bx_12.out.other (c := w.heap.size) (i := 6) (u := .string (ofL r.m)) (by omega))
 have By_13 := Lib.hid (By_12.out.other (c := w.heap.size) (i := 6) (u := .string (ofL r.m)) (by omega))
 have P14' := Lib.hid (P13'.out.own (b := w.heap.size) (by omega) 7 (.string (ofL r.f)))
 have O14' := Lib.hid (O13'.out.own (b := w.heap.size) (by omega) 7 (.string (ofL r.f)))
 have Br_14 : Hid (Bx _ _ _ #[.int .i64 l.k, .string (ofL l.m), .string (ofL l.f), .int .i64 l.n, .string (ofL op), .int .i64 r.k, .string (ofL r.m), .string (ofL r.f), .int .i64 0]) := Br_13.out.set 7 (.string (ofL r.f))
 have Bx_14 := Lib.hid (Bx_13.out.other (c := w.heap.size) (i := 7) (u := .string (ofL r.f)) (by omega))
 have By_14 := Lib.hid (By_13.out.other (c := w.heap.size) (i := 7) (u := .string (ofL r.f)) (by omega))
 have P15' := Lib.hid (P14'.out.own (b := w.heap.size) (by omega) 8 (.int .i64 r.n))
 have O15' := Lib.hid (O14'.out.own (b := w.heap.size) (by omega) 8 (.int .i64 r.n))
 have Br_15 : Hid (Bx _ _ _ #[.int .i64 l.k, .string (ofL l.m), .string (ofL l.f), .int .i64 l.n, .string (ofL op), .int .i64 r.k, .string (ofL r.m), .string (ofL r.f), .int .i64 r.n]) := Br_14.out.set 8 (.int .i64 r.n)
 have Bx_15 := Lib.hid (Bx_14.out.other (c := w.heap.size) (i := 8) (u := .int .i64 r.n) (by omega))
 have By_15 := Lib.hid (By_14.out.other (c := w.heap.size) (i := 8) (u := .int .i64 r.n) (by omega))
 refine bodyPost_ret (v := .agg #[.int .i64 l.k, .string (ofL l.m), .string (ofL l.f), .int .i64 l.n, .string (ofL op), .int .i64 r.k, .string (ofL r.m), .string (ofL r.f), .int .i64 r.n]) (bx_ret Br_15.out Tryz.results197 _ rfl Tryz.underlying100 rfl (by kernel_rfl)) rfl ?_
 exact ⟨rfl, P15'.out, O15'.out⟩
end
/- Layer 10: the contracts of the parser's methods that fill structs: sort, field. -/
open Go.RowKit
abbrev oSynF0 : Obj := .cells #[.string ⟨#[]⟩, .int .i64 0, .int .i64 0, .int .i64 0] 158

section
variable {w w' : World} {g E : Nat} {s : St}
theorem pathP_dec : Dec (pathP E) := (sepP_dec wordP_dec).bind fun _ => Dec.pure _
theorem varP_dec : Dec (varP E) := (sepP_dec wordP_dec).bind fun _ => Dec.pure _
theorem wordsP_dec : Dec (wordsP E) := sepP_dec wordP_dec
theorem sortP_dec {rd : P Int} (h : Dec rd) : Dec (sortP E rd) := h.bind fun _ => (expectP_dec _).bind fun _ => h.bind fun _ => Dec.pure _
theorem fieldP_dec : Dec (fieldP E) := wordP_dec.bind fun _ => (expectP_dec _).bind fun _ => (takeP_dec _).bind fun _ => Dec.ite ((sortP_dec numP_dec).bind fun _ => Dec.pure _) ((expectP_dec _).bind fun _ => (sortP_dec signedP_dec).bind fun _ => Dec.pure _)
theorem Dec.fork {α : Type} {c : St → Prop} [∀ s, Decidable (c s)] {f k : P α} (hf : Dec f) (hk : Dec k) : Dec (fun s => if c s then f s else k s) := fun s => by
 show (if c s then f s else k s).2.r.length ≤ _
 split
 ·exact hf s
 ·exact hk s
theorem termP_dec : Dec (termP E) := (takeP_dec _).bind fun _ => Dec.ite ((expectP_dec _).bind fun _ => varP_dec.bind fun _ => (expectP_dec _).bind fun _ => addedP_dec.bind fun _ => Dec.pure _)
 (Dec.fork (varP_dec.bind fun _ => addedP_dec.bind fun _ => Dec.pure _) (signedP_dec.bind fun _ => Dec.pure _))
theorem atomP_dec : Dec (atomP E) := termP_dec.bind fun _ => opP_dec.bind fun _ => termP_dec.bind fun _ => Dec.pure _
theorem fieldsP_dec : Dec (fieldsP E) := Dec.fork (Dec.pure _) (sepP_dec fieldP_dec)
theorem whereP_dec : Dec (whereP E) := (takeP_dec _).bind fun _ => Dec.ite (sepP_dec atomP_dec) (Dec.pure _)
theorem messageP_dec : Dec (messageP E) := (expectP_dec _).bind fun _ => pathP_dec.bind fun _ => (expectP_dec _).bind fun _ => fieldsP_dec.bind fun _ => (expectP_dec _).bind fun _ => whereP_dec.bind fun _ => (expectP_dec _).bind fun _ => Dec.pure _
def vI (n : Int) : Value := .int .i64 n
theorem num_rd (L : Nat) : IsRd 222 g E L (numP E) vI :=
 ⟨fun args w => enters_of Tryz.func222 (by kernel_rfl) rfl args w, fun _ _ _ h => pnumber_any h⟩
theorem signed_rd (L : Nat) : IsRd 223 g E L (signedP E) vI :=
 ⟨fun args w => enters_of Tryz.func223 (by kernel_rfl) rfl args w, fun _ _ _ h => psigned_any h⟩
theorem atom_rd (L : Nat) : IsRd 197 g E L (atomP E) vA :=
 ⟨fun args w => enters_of Tryz.func197 (by kernel_rfl) rfl args w, fun _ _ _ h => patom_any h⟩
set_option maxRecDepth 20000 in
set_option maxHeartbeats 800000 in
theorem psort_any {K L : Nat} {rd : P Int} (hd : Dec rd) (hK : IsRd K g E L rd vI) (h : Prs w g E s) (hL : s.r.length ≤ L) (kd : Nat) : Calls Tryz.prog 221 #[.pointer (some ⟨g, 0, none⟩), .int .i64 (kd : Int), .func (.func K) #[.pointer (some ⟨g, 0, none⟩)] #[]] w (Got w g E (sortP E rd s).2 (.agg #[.int .i64 (kd : Int), .int .i64 (sortP E rd s).1.1, .int .i64 (sortP E rd s).1.2])) := by
 have H := Lib.hid h
 have hlt := h.lt
 have HO := Lib.hid (Only.refl g w)
 have hE := hK.1
 have HK := Lib.hid hK.2
 obtain ⟨s1, hs1⟩ : ∃ s1, (rd s).2 = s1 := ⟨_, rfl⟩
 obtain ⟨lo, hv1⟩ : ∃ lo, (rd s).1 = lo := ⟨_, rfl⟩
 obtain ⟨s2, hs2⟩ : ∃ s2, (expectP E [46, 46] s1).2 = s2 := ⟨_, rfl⟩
 obtain ⟨s3, hs3⟩ : ∃ s3, (rd s2).2 = s3 := ⟨_, rfl⟩
 obtain ⟨hi, hv3⟩ : ∃ hi, (rd s2).1 = hi := ⟨_, rfl⟩
 have hl2 : s2.r.length ≤ L := by rw [← hs2, ← hs1]; exact Nat.le_trans (expectP_dec _ _) (Nat.le_trans (hd _) hL)
 have HL2 := Lib.hid hl2
 have HL := Lib.hid hL
 have HR := Lib.hid (show sortP E rd s = ((lo, hi), s3) by subst hs1; subst hv1; subst hs2; subst hs3; subst hv3;  rfl)
 rw [HR.out]
 have HS1 := Lib.hid hs1
 have HV1 := Lib.hid hv1
 have HS2 := Lib.hid hs2
 have HS3 := Lib.hid hs3
 have HV3 := Lib.hid hv3
 clear hs1 hv1 hs2 hs3 hv3
 clear h hK hd hl2 hL
 go_enter Tryz.func221, Tryz.ntmps221
 have P1' : Hid (Prs ((w).alloc (.cells #[.int .i64 0, .int .i64 0, .int .i64 0] 156)) g E _) := H.out.alloc _
 have O1' : Hid (Only g w ((w).alloc (.cells #[.int .i64 0, .int .i64 0, .int .i64 0] 156))) := HO.out.alloc _
 have Br_1 : Hid (Bx ((w).alloc (.cells #[.int .i64 0, .int .i64 0, .int .i64 0] 156)) (w.heap.size) 156 #[.int .i64 0, .int .i64 0, .int .i64 0]) := Bx.new2 (rfl)
 go_wp2_with fail
 refine (HK.out _ _ HL.out P1'.out).mono ?_; rintro e w2 ⟨rfl, P2, O2⟩
 rw [HS1.out] at P2
 rw [HV1.out]
 unfold vI
 have P2' := Lib.hid P2
 have O2' := Lib.hid (O1'.out.trans O2)
 have Br_2 := Lib.hid (Br_1.out.only O2 (by omega))
 have hz2 : w.heap.size + 1 ≤ w2.heap.size := by have := O2.size; simp only [size_alloc] at this; exact this
 clear P2 O2
 go_wp2_with fail
 refine (pexpect_any P2'.out [46, 46]).mono ?_; rintro e w3 ⟨rfl, P3, O3⟩
 rw [HS2.out] at P3
 have P3' := Lib.hid P3
 have O3' := Lib.hid (O2'.out.trans O3)
 have Br_3 := Lib.hid (Br_2.out.only O3 (by omega))
 have hz3 : w2.heap.size ≤ w3.heap.size := O3.size
 clear P3 O3
 go_wp2_with fail
 refine (HK.out _ _ HL2.out P3'.out).mono ?_; rintro e w4 ⟨rfl, P4, O4⟩
 rw [HS3.out] at P4
 rw [HV3.out]
 unfold vI
 have P4' := Lib.hid P4
 have O4' := Lib.hid (O3'.out.trans O4)
 have Br_4 := Lib.hid (Br_3.out.only O4 (by omega))
 have hz4 : w3.heap.size ≤ w4.heap.size := O4.size
 clear P4 O4
 obtain ⟨cr_0, cr_1, cr_2⟩ := Br_4.out.k3
 obtain ⟨fr_0, fr_1, fr_2⟩ := Br_4.out.f3
 go_wp2_with fail
 have P5' := Lib.hid (P4'.out.own (b := w.heap.size) (by omega) 0 (.int .i64 (kd : Int)))
 have O5' := Lib.hid (O4'.out.own (b := w.heap.size) (by omega) 0 (.int .i64 (kd : Int)))
 have Br_5 : Hid (Bx _ _ _ #[.int .i64 (kd : Int), .int .i64 0, .int .i64 0]) := Br_4.out.set 0 (.int .i64 (kd : Int))
 have P6' := Lib.hid (P5'.out.own (b := w.heap.size) (by omega) 1 (.int .i64 lo))
 have O6' := Lib.hid (O5'.out.own (b := w.heap.size) (by omega) 1 (.int .i64 lo))
 have Br_6 : Hid (Bx _ _ _ #[.int .i64 (kd : Int), .int .i64 lo, .int .i64 0]) := Br_5.out.set 1 (.int .i64 lo)
 have P7' := Lib.hid (P6'.out.own (b := w.heap.size) (by omega) 2 (.int .i64 hi))
 have O7' := Lib.hid (O6'.out.own (b := w.heap.size) (by omega) 2 (.int .i64 hi))
 have Br_7 : Hid (Bx _ _ _ #[.int .i64 (kd : Int), .int .i64 lo, .int .i64 hi]) := Br_6.out.set 2 (.int .i64 hi)
 refine bodyPost_ret (v := .agg #[.int .i64 (kd : Int), .int .i64 lo, .int .i64 hi]) (bx_ret Br_7.out Tryz.results221 _ rfl Tryz.underlying156 rfl (by kernel_rfl)) rfl ?_
 exact ⟨rfl, P7'.out, O7'.out⟩
set_option maxRecDepth 20000 in
set_option maxHeartbeats 800000 in
theorem pfield_any (h : Prs w g E s) : Calls Tryz.prog 194 #[.pointer (some ⟨g, 0, none⟩)] w (Got w g E (fieldP E s).2 (vF (fieldP E s).1)) := by
 obtain ⟨s1, hs1⟩ : ∃ s1, (wordP E s).2 = s1 := ⟨_, rfl⟩
 have HS1 := Lib.hid hs1
 obtain ⟨nm, hv1⟩ : ∃ nm, (wordP E s).1 = nm := ⟨_, rfl⟩
 have HV1 := Lib.hid hv1
 obtain ⟨s2, hs2⟩ : ∃ s2, (expectP E [58] s1).2 = s2 := ⟨_, rfl⟩
 have HS2 := Lib.hid hs2
 obtain ⟨s3, hs3⟩ : ∃ s3, (takeP E [116, 101, 120, 116] s2).2 = s3 := ⟨_, rfl⟩
 have HS3 := Lib.hid hs3
 have hmf := makeFunc_run
 have H := Lib.hid h
 have hlt := h.lt
 have HO := Lib.hid (Only.refl g w)
 cases hb : (takeP E [116, 101, 120, 116] s2).1 with
 | true =>
  obtain ⟨s5, hs5⟩ : ∃ s5, (sortP E (numP E) s3).2 = s5 := ⟨_, rfl⟩
  have HS5 := Lib.hid hs5
  obtain ⟨x, hv5⟩ : ∃ x, (sortP E (numP E) s3).1 = x := ⟨_, rfl⟩
  have HV5 := Lib.hid hv5
  have HR := Lib.hid (show fieldP E s = (⟨nm, 2, x.1, x.2⟩, s5) by unfold fieldP; subst hs1; subst hs2; subst hv1; refine (take_yes hb).trans ?_; subst hs3; subst hs5; subst hv5; rfl)
  rw [HR.out]
  have HB := Lib.hid hb
  clear h hb hs1 hs2 hs3 hs5 hv1 hv5
  go_enter Tryz.func194, Tryz.ntmps194
  have P1' : Hid (Prs ((w).alloc oSynF0) g E _) := H.out.alloc _
  have O1' : Hid (Only g w ((w).alloc oSynF0)) := HO.out.alloc _
  have Br_1 : Hid (Bx ((w).alloc oSynF0) (w.heap.size) 158 #[.string ⟨#[]⟩, .int .i64 0, .int .i64 0, .int .i64 0]) := Bx.new2 (rfl)
  go_wp2_with fail
  refine (pword_any P1'.out).mono ?_; rintro e w2 ⟨rfl, P2, O2⟩
  rw [HS1.out] at P2
  rw [HV1.out]
  have P2' := Lib.hid P2
  have O2' := Lib.hid (O1'.out.trans O2)
  have Br_2 := Lib.hid (Br_1.out.only O2 (by omega))
  have hz2 : w.heap.size + 1 ≤ w2.heap.size := by have := O2.size; simp only [size_alloc] at this; exact this
  clear P2 O2
  go_wp2_with fail
  refine (pexpect_any P2'.out [58]).mono ?_; rintro e w3 ⟨rfl, P3, O3⟩
  rw [HS2.out] at P3
  have P3' := Lib.hid P3
  have O3' := Lib.hid (O2'.out.trans O3)
  have Br_3 := Lib.hid (Br_2.out.only O3 (by omega))
  have hz3 : w2.heap.size ≤ w3.heap.size := O3.size
  clear P3 O3
  go_wp2_with fail
  refine (ptake_any P3'.out [116, 101, 120, 116]).mono ?_; rintro e w4 ⟨rfl, P4, O4⟩
  rw [HS3.out] at P4
  rw [HB.out]
  have P4' := Lib.hid P4
  have O4' := Lib.hid (O3'.out.trans O4)
  have Br_4 := Lib.hid (Br_3.out.only O4 (by omega))
  have hz4 : w3.heap.size ≤ w4.heap.size := O4.size
  clear P4 O4
  go_wp2_with fail
  refine (psort_any numP_dec (num_rd _) P4'.out (Nat.le_refl _) 2).mono ?_; rintro e w5 ⟨rfl, P5, O5⟩
  rw [HS5.out] at P5
  rw [HV5.out]
  have P5' := Lib.hid P5
  have O5' := Lib.hid (O4'.out.trans O5)
  have Br_5 := Lib.hid (Br_4.out.only O5 (by omega))
  have hz5 : w4.heap.size ≤ w5.heap.size := O5.size
  clear P5 O5
  obtain ⟨cr_0, cr_1, cr_2, cr_3⟩ := Br_5.out.k4
  obtain ⟨fr_0, fr_1, fr_2, fr_3⟩ := Br_5.out.f4
  go_wp2_with fail
  have P6' := Lib.hid (P5'.out.own (b := w.heap.size) (by omega) 0 (.string (ofL nm)))
  have O6' := Lib.hid (O5'.out.own (b := w.heap.size) (by omega) 0 (.string (ofL nm)))
  have Br_6 : Hid (Bx _ _ _ #[.string (ofL nm), .int .i64 0, .int .i64 0, .int .i64 0]) := Br_5.out.set 0 (.string (ofL nm))
  have P7' := Lib.hid (P6'.out.own (b := w.heap.size) (by omega) 1 (.int .i64 2))
  have O7' := Lib.hid (O6'.out.own (b := w.heap.size) (by omega) 1 (.int .i64 2))
  have Br_7 : Hid (Bx _ _ _ #[.string (ofL nm), .int .i64 2, .int .i64 0, .int .i64 0]) := Br_6.out.set 1 (.int .i64 2)
  have P8' := Lib.hid (P7'.out.own (b := w.heap.size) (by omega) 2 (.int .i64 x.1))
  have O8' := Lib.hid (O7'.out.own (b := w.heap.size) (by omega) 2 (.int .i64 x.1))
  have Br_8 : Hid (Bx _ _ _ #[.string (ofL nm), .int .i64 2, .int .i64 x.1, .int .i64 0]) := Br_7.out.set 2 (.int .i64 x.1)
  have P9' := Lib.hid (P8'.out.own (b := w.heap.size) (by omega) 3 (.int .i64 x.2))
  have O9' := Lib.hid (O8'.out.own (b := w.heap.size) (by omega) 3 (.int .i64 x.2))
  have Br_9 : Hid (Bx _ _ _ #[.string (ofL nm), .int .i64 2, .int .i64 x.1, .int .i64 x.2]) := Br_8.out.set 3 (.int .i64 x.2)
  refine bodyPost_ret (v := .agg #[.string (ofL nm), .int .i64 2, .int .i64 x.1, .int .i64 x.2]) (bx_ret Br_9.out Tryz.results194 _ rfl Tryz.underlying158 rfl (by kernel_rfl)) rfl ?_
  exact ⟨rfl, P9'.out, O9'.out⟩
 | false =>
  obtain ⟨s4, hs4⟩ : ∃ s4, (expectP E [105, 110, 116] s3).2 = s4 := ⟨_, rfl⟩
  have HS4 := Lib.hid hs4
  obtain ⟨s5, hs5⟩ : ∃ s5, (sortP E (signedP E) s4).2 = s5 := ⟨_, rfl⟩
  have HS5 := Lib.hid hs5
  obtain ⟨x, hv5⟩ : ∃ x, (sortP E (signedP E) s4).1 = x := ⟨_, rfl⟩
  have HV5 := Lib.hid hv5
  have HR := Lib.hid (show fieldP E s = (⟨nm, 1, x.1, x.2⟩, s5) by unfold fieldP; subst hs1; subst hs2; subst hv1; refine (take_no hb).trans ?_; subst hs3; subst hs4; subst hs5; subst hv5; rfl)
  rw [HR.out]
  have HB := Lib.hid hb
  clear h hb hs1 hs2 hs3 hs4 hs5 hv1 hv5
  go_enter Tryz.func194, Tryz.ntmps194
  have P1' : Hid (Prs ((w).alloc oSynF0) g E _) := H.out.alloc _
  have O1' : Hid (Only g w ((w).alloc oSynF0)) := HO.out.alloc _
  have Br_1 : Hid (Bx ((w).alloc oSynF0) (w.heap.size) 158 #[.string ⟨#[]⟩, .int .i64 0, .int .i64 0, .int .i64 0]) := Bx.new2 (rfl)
  go_wp2_with fail
  refine (pword_any P1'.out).mono ?_; rintro e w2 ⟨rfl, P2, O2⟩
  rw [HS1.out] at P2
  rw [HV1.out]
  have P2' := Lib.hid P2
  have O2' := Lib.hid (O1'.out.trans O2)
  have Br_2 := Lib.hid (Br_1.out.only O2 (by omega))
  have hz2 : w.heap.size + 1 ≤ w2.heap.size := by have := O2.size; simp only [size_alloc] at this; exact this
  clear P2 O2
  go_wp2_with fail
  refine (pexpect_any P2'.out [58]).mono ?_; rintro e w3 ⟨rfl, P3, O3⟩
  rw [HS2.out] at P3
  have P3' := Lib.hid P3
  have O3' := Lib.hid (O2'.out.trans O3)
  have Br_3 := Lib.hid (Br_2.out.only O3 (by omega))
  have hz3 : w2.heap.size ≤ w3.heap.size := O3.size
  clear P3 O3
  go_wp2_with fail
  refine (ptake_any P3'.out [116, 101, 120, 116]).mono ?_; rintro e w4 ⟨rfl, P4, O4⟩
  rw [HS3.out] at P4
  rw [HB.out]
  have P4' := Lib.hid P4
  have O4' := Lib.hid (O3'.out.trans O4)
  have Br_4 := Lib.hid (Br_3.out.only O4 (by omega))
  have hz4 : w3.heap.size ≤ w4.heap.size := O4.size
  clear P4 O4
  go_wp2_with fail
  refine (pexpect_any P4'.out [105, 110, 116]).mono ?_; rintro e w5 ⟨rfl, P5, O5⟩
  rw [HS4.out] at P5
  have P5' := Lib.hid P5
  have O5' := Lib.hid (O4'.out.trans O5)
  have Br_5 := Lib.hid (Br_4.out.only O5 (by omega))
  have hz5 : w4.heap.size ≤ w5.heap.size := O5.size
  clear P5 O5
  go_wp2_with fail
  refine (psort_any signedP_dec (signed_rd _) P5'.out (Nat.le_refl _) 1).mono ?_; rintro e w6 ⟨rfl, P6, O6⟩
  rw [HS5.out] at P6
  rw [HV5.out]
  have P6' := Lib.hid P6
  have O6' := Lib.hid (O5'.out.trans O6)
  have Br_6 := Lib.hid (Br_5.out.only O6 (by omega))
  have hz6 : w5.heap.size ≤ w6.heap.size := O6.size
  clear P6 O6
  obtain ⟨cr_0, cr_1, cr_2, cr_3⟩ := Br_6.out.k4
  obtain ⟨fr_0, fr_1, fr_2, fr_3⟩ := Br_6.out.f4
  go_wp2_with fail
  have P7' := Lib.hid (P6'.out.own (b := w.heap.size) (by omega) 0 (.string (ofL nm)))
  have O7' := Lib.hid (O6'.out.own (b := w.heap.size) (by omega) 0 (.string (ofL nm)))
  have Br_7 : Hid (Bx _ _ _ #[.string (ofL nm), .int .i64 0, .int .i64 0, .int .i64 0]) := Br_6.out.set 0 (.string (ofL nm))
  have P8' := Lib.hid (P7'.out.own (b := w.heap.size) (by omega) 1 (.int .i64 1))
  have O8' := Lib.hid (O7'.out.own (b := w.heap.size) (by omega) 1 (.int .i64 1))
  have Br_8 : Hid (Bx _ _ _ #[.string (ofL nm), .int .i64 1, .int .i64 0, .int .i64 0]) := Br_7.out.set 1 (.int .i64 1)
  have P9' := Lib.hid (P8'.out.own (b := w.heap.size) (by omega) 2 (.int .i64 x.1))
  have O9' := Lib.hid (O8'.out.own (b := w.heap.size) (by omega) 2 (.int .i64 x.1))
  have Br_9 : Hid (Bx _ _ _ #[.string (ofL nm), .int .i64 1, .int .i64 x.1, .int .i64 0]) := Br_8.out.set 2 (.int .i64 x.1)
  have P10' := Lib.hid (P9'.out.own (b := w.heap.size) (by omega) 3 (.int .i64 x.2))
  have O10' := Lib.hid (O9'.out.own (b := w.heap.size) (by omega) 3 (.int .i64 x.2))
  have Br_10 : Hid (Bx _ _ _ #[.string (ofL nm), .int .i64 1, .int .i64 x.1, .int .i64 x.2]) := Br_9.out.set 3 (.int .i64 x.2)
  refine bodyPost_ret (v := .agg #[.string (ofL nm), .int .i64 1, .int .i64 x.1, .int .i64 x.2]) (bx_ret Br_10.out Tryz.results194 _ rfl Tryz.underlying158 rfl (by kernel_rfl)) rfl ?_
  exact ⟨rfl, P10'.out, O10'.out⟩
end
end Go.Proofs.YtekpefcggikcbaaGreatDoor
