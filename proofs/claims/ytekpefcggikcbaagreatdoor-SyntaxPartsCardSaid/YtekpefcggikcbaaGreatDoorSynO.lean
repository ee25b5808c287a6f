/- Layer 10: the contracts of the parser's methods that fill structs: term, atom. -/
import Derived.Test.YtekpefcggikcbaaGreatDoorMSynB
namespace Go.Proofs.YtekpefcggikcbaaGreatDoor
open Go.RowKit
abbrev oSynO0 : Obj := .cells #[.int .i64 0, .string ⟨#[]⟩, .string ⟨#[]⟩, .int .i64 0] 98

section
variable {w w' : World} {g E : Nat} {s : St}
set_option maxRecDepth 20000 in
set_option maxHeartbeats 800000 in
theorem pterm_any (h : Prs w g E s) : Calls Tryz.prog 224 #[.pointer (some ⟨g, 0, none⟩)] w (Got w g E (termP E s).2 (vT (termP E s).1)) := by
 obtain ⟨s1, hs1⟩ : ∃ s1, (takeP E [108, 101, 110] s).2 = s1 := ⟨_, rfl⟩
 have HS1 := Lib.hid hs1
 have H := Lib.hid h
 have hlt := h.lt
 have HO := Lib.hid (Only.refl g w)
 cases hb : (takeP E [108, 101, 110] s).1 with
 | true =>
  obtain ⟨s2, hs2⟩ : ∃ s2, (expectP E [40] s1).2 = s2 := ⟨_, rfl⟩
  have HS2 := Lib.hid hs2
  obtain ⟨s3, hs3⟩ : ∃ s3, (varP E s2).2 = s3 := ⟨_, rfl⟩
  have HS3 := Lib.hid hs3
  obtain ⟨x, hv3⟩ : ∃ x, (varP E s2).1 = x := ⟨_, rfl⟩
  have HV3 := Lib.hid hv3
  obtain ⟨s4, hs4⟩ : ∃ s4, (expectP E [41] s3).2 = s4 := ⟨_, rfl⟩
  have HS4 := Lib.hid hs4
  obtain ⟨s5, hs5⟩ : ∃ s5, (addedP E s4).2 = s5 := ⟨_, rfl⟩
  have HS5 := Lib.hid hs5
  obtain ⟨n, hv5⟩ : ∃ n, (addedP E s4).1 = n := ⟨_, rfl⟩
  have HV5 := Lib.hid hv5
  have HR := Lib.hid (show termP E s = (⟨3, x.1, x.2, n⟩, s5) by unfold termP; refine (take_yes hb).trans ?_; subst hs1; subst hs2; subst hs3; subst hs4; subst hs5; subst hv3; subst hv5; rfl)
  rw [HR.out]
  have HB := Lib.hid hb
  clear h hb hs1 hs2 hs3 hs4 hs5 hv3 hv5
  go_enter Tryz.func224, Tryz.ntmps224
  have P1' : Hid (Prs ((w).alloc oSynO0) g E _) := H.out.alloc _
  have O1' : Hid (Only g w ((w).alloc oSynO0)) := HO.out.alloc _
  have Br_1 : Hid (Bx ((w).alloc oSynO0) (w.heap.size) 98 #[.int .i64 0, .string ⟨#[]⟩, .string ⟨#[]⟩, .int .i64 0]) := Bx.new2 (rfl)
  go_wp2_with fail
  refine (ptake_any P1'.out [108, 101, 110]).mono ?_; rintro e w2 ⟨rfl, P2, O2⟩
  rw [HS1.out] at P2
  rw [HB.out]
  have P2' := Lib.hid P2
  have O2' := Lib.hid (O1'.out.trans O2)
  have Br_2 := Lib.hid (Br_1.out.only O2 (by omega))
  have hz2 : w.heap.size + 1 ≤ w2.heap.size := by have := O2.size; simp only [size_alloc] at this; exact this
  clear P2 O2
  go_wp2_with fail
  refine (pexpect_any P2'.out [40]).mono ?_; rintro e w3 ⟨rfl, P3, O3⟩
  rw [HS2.out] at P3
  have P3' := Lib.hid P3
  have O3' := Lib.hid (O2'.out.trans O3)
  have Br_3 := Lib.hid (Br_2.out.only O3 (by omega))
  have hz3 : w2.heap.size ≤ w3.heap.size := O3.size
  clear P3 O3
  go_wp2_with fail
  refine (pvariable_any P3'.out).mono ?_; rintro e w4 ⟨rfl, P4, O4⟩
  rw [HS3.out] at P4
  rw [HV3.out]
  have P4' := Lib.hid P4
  have O4' := Lib.hid (O3'.out.trans O4)
  have Br_4 := Lib.hid (Br_3.out.only O4 (by omega))
  have hz4 : w3.heap.size ≤ w4.heap.size := O4.size
  clear P4 O4
  go_wp2_with fail
  refine (pexpect_any P4'.out [41]).mono ?_; rintro e w5 ⟨rfl, P5, O5⟩
  rw [HS4.out] at P5
  have P5' := Lib.hid P5
  have O5' := Lib.hid (O4'.out.trans O5)
  have Br_5 := Lib.hid (Br_4.out.only O5 (by omega))
  have hz5 : w4.heap.size ≤ w5.heap.size := O5.size
  clear P5 O5
  go_wp2_with fail
  refine (padded_any P5'.out).mono ?_; rintro e w6 ⟨rfl, P6, O6⟩
  rw [HS5.out] at P6
  rw [HV5.out]
  have P6' := Lib.hid P6
  have O6' := Lib.hid (O5'.out.trans O6)
  have Br_6 := Lib.hid (Br_5.out.only O6 (by omega))
  have hz6 : w5.heap.size ≤ w6.heap.size := O6.size
  clear P6 O6
  obtain ⟨cr_0, cr_1, cr_2, cr_3⟩ := Br_6.out.k4
  obtain ⟨fr_0, fr_1, fr_2, fr_3⟩ := Br_6.out.f4
  go_wp2_with fail
  have P7' : Hid (Prs ((w6).setCell ⟨w.heap.size, 0, none⟩ (.int .i64 3)) g E _) := P6'.out.own (by omega) _ _
  have O7' : Hid (Only g w ((w6).setCell ⟨w.heap.size, 0, none⟩ (.int .i64 3))) := O6'.out.own (by omega) _ _
  have Br_7 : Hid (Bx ((w6).setCell ⟨w.heap.size, 0, none⟩ (.int .i64 3)) (w.heap.size) 98 #[.int .i64 3, .string ⟨#[]⟩, .string ⟨#[]⟩, .int .i64 0]) := Br_6.out.set 0 _
  have P8' : Hid (Prs (((w6).setCell ⟨w.heap.size, 0, none⟩ (.int .i64 3)).setCell ⟨w.heap.size, 1, none⟩ (.string (ofL x.1))) g E _) := P7'.out.own (by omega) _ _
  have O8' : Hid (Only g w (((w6).setCell ⟨w.heap.size, 0, none⟩ (.int .i64 3)).setCell ⟨w.heap.size, 1, none⟩ (.string (ofL x.1)))) := O7'.out.own (by omega) _ _
  have Br_8 : Hid (Bx (((w6).setCell ⟨w.heap.size, 0, none⟩ (.int .i64 3)).setCell ⟨w.heap.size, 1, none⟩ (.string (ofL x.1))) (w.heap.size) 98 #[.int .i64 3, .string (ofL x.1), .string ⟨#[]⟩, .int .i64 0]) := Br_7.out.set 1 _
  have P9' : Hid (Prs ((((w6).setCell ⟨w.heap.size, 0, none⟩ (.int .i64 3)).setCell ⟨w.heap.size, 1, none⟩ (.string (ofL x.1))).setCell ⟨w.heap.size, 2, none⟩ (.string (ofL x.2))) g E _) := P8'.out.own (by omega) _ _
  have O9' : Hid (Only g w ((((w6).setCell ⟨w.heap.size, 0, none⟩ (.int .i64 3)).setCell ⟨w.heap.size, 1, none⟩ (.string (ofL x.1))).setCell ⟨w.heap.size, 2, none⟩ (.string (ofL x.2)))) := O8'.out.own (by omega) _ _
  have Br_9 : Hid (Bx ((((w6).setCell ⟨w.heap.size, 0, none⟩ (.int .i64 3)).setCell ⟨w.heap.size, 1, none⟩ (.string (ofL x.1))).setCell ⟨w.heap.size, 2, none⟩ (.string (ofL x.2))) (w.heap.size) 98 #[.int .i64 3, .string (ofL x.1), .string (ofL x.2), .int .i64 0]) := Br_8.out.set 2 _
  have P10' : Hid (Prs (((((w6).setCell ⟨w.heap.size, 0, none⟩ (.int .i64 3)).setCell ⟨w.heap.size, 1, none⟩ (.string (ofL x.1))).setCell ⟨w.heap.size, 2, none⟩ (.string (ofL x.2))).setCell ⟨w.heap.size, 3, none⟩ (.int .i64 n)) g E _) := P9'.out.own (by omega) _ _
  have O10' : Hid (Only g w (((((w6).setCell ⟨w.heap.size, 0, none⟩ (.int .i64 3)).setCell ⟨w.heap.size, 1, none⟩ (.string (ofL x.1))).setCell ⟨w.heap.size, 2, none⟩ (.string (ofL x.2))).setCell ⟨w.heap.size, 3, none⟩ (.int .i64 n))) := O9'.out.own (by omega) _ _
  have Br_10 : Hid (Bx (((((w6).setCell ⟨w.heap.size, 0, none⟩ (.int .i64 3)).setCell ⟨w.heap.size, 1, none⟩ (.string (ofL x.1))).setCell ⟨w.heap.size, 2, none⟩ (.string (ofL x.2))).setCell ⟨w.heap.size, 3, none⟩ (.int .i64 n)) (w.heap.size) 98 #[.int .i64 3, .string (ofL x.1), .string (ofL x.2), .int .i64 n]) := Br_9.out.set 3 _
  refine bodyPost_ret (v := .agg #[.int .i64 3, .string (ofL x.1), .string (ofL x.2), .int .i64 n]) (bx_ret Br_10.out Tryz.results224 _ rfl Tryz.underlying98 rfl (by kernel_rfl)) rfl ?_
  exact ⟨rfl, P10'.out, O10'.out⟩
 | false =>
  have HB := Lib.hid hb
  obtain ⟨t, ht⟩ : ∃ t, nextT E s1 = t := ⟨_, rfl⟩
  have HT := Lib.hid ht
  by_cases hk : t.k = 1
  ·have e4 : ((t.k : Int) == 1) = true := by simp; omega
   obtain ⟨s2, hs2⟩ : ∃ s2, (varP E s1).2 = s2 := ⟨_, rfl⟩
   have HS2 := Lib.hid hs2
   obtain ⟨x, hv2⟩ : ∃ x, (varP E s1).1 = x := ⟨_, rfl⟩
   have HV2 := Lib.hid hv2
   obtain ⟨s3, hs3⟩ : ∃ s3, (addedP E s2).2 = s3 := ⟨_, rfl⟩
   have HS3 := Lib.hid hs3
   obtain ⟨n, hv3⟩ : ∃ n, (addedP E s2).1 = n := ⟨_, rfl⟩
   have HV3 := Lib.hid hv3
   have HR := Lib.hid (show termP E s = (⟨2, x.1, x.2, n⟩, s3) by unfold termP; refine (take_no hb).trans ?_; rw [hs1]; show (if (nextT E s1).k = 1 then _ else _) = _; rw [if_pos (by rw [ht]; exact hk)]; subst hs2; subst hs3; subst hv2; subst hv3; rfl)
   rw [HR.out]
   clear h hb hk ht hs1 hs2 hs3 hv2 hv3
   go_enter Tryz.func224, Tryz.ntmps224
   have P1' : Hid (Prs ((w).alloc oSynO0) g E _) := H.out.alloc _
   have O1' : Hid (Only g w ((w).alloc oSynO0)) := HO.out.alloc _
   have Br_1 : Hid (Bx ((w).alloc oSynO0) (w.heap.size) 98 #[.int .i64 0, .string ⟨#[]⟩, .string ⟨#[]⟩, .int .i64 0]) := Bx.new2 (rfl)
   go_wp2_with fail
   refine (ptake_any P1'.out [108, 101, 110]).mono ?_; rintro e w2 ⟨rfl, P2, O2⟩
   rw [HS1.out] at P2
   rw [HB.out]
   have P2' := Lib.hid P2
   have O2' := Lib.hid (O1'.out.trans O2)
   have Br_2 := Lib.hid (Br_1.out.only O2 (by omega))
   have hz2 : w.heap.size + 1 ≤ w2.heap.size := by have := O2.size; simp only [size_alloc] at this; exact this
   clear P2 O2
   go_wp2_with fail
   refine (pnext_any P2'.out).mono ?_; rintro e w3 ⟨rfl, hb3⟩
   rw [HT.out]
   unfold tokA
   have O3 := (Only.refl g _).below hb3
   have P3 := P2'.out.below hb3 P2'.out.lt
   have P3' := Lib.hid P3
   have O3' := Lib.hid (O2'.out.trans O3)
   have Br_3 := Lib.hid (Br_2.out.only O3 (by omega))
   have hz3 : w2.heap.size ≤ w3.heap.size := O3.size
   clear P3 O3 hb3
   have hfl := fld_tok0
   go_wp2_with fail
   refine (pvariable_any P3'.out).mono ?_; rintro e w4 ⟨rfl, P4, O4⟩
   rw [HS2.out] at P4
   rw [HV2.out]
   have P4' := Lib.hid P4
   have O4' := Lib.hid (O3'.out.trans O4)
   have Br_4 := Lib.hid (Br_3.out.only O4 (by omega))
   have hz4 : w3.heap.size ≤ w4.heap.size := O4.size
   clear P4 O4
   go_wp2_with fail
   refine (padded_any P4'.out).mono ?_; rintro e w5 ⟨rfl, P5, O5⟩
   rw [HS3.out] at P5
   rw [HV3.out]
   have P5' := Lib.hid P5
   have O5' := Lib.hid (O4'.out.trans O5)
   have Br_5 := Lib.hid (Br_4.out.only O5 (by omega))
   have hz5 : w4.heap.size ≤ w5.heap.size := O5.size
   clear P5 O5
   obtain ⟨cr_0, cr_1, cr_2, cr_3⟩ := Br_5.out.k4
   obtain ⟨fr_0, fr_1, fr_2, fr_3⟩ := Br_5.out.f4
   go_wp2_with fail
   have P6' : Hid (Prs ((w5).setCell ⟨w.heap.size, 0, none⟩ (.int .i64 2)) g E _) := P5'.out.own (by omega) _ _
   have O6' : Hid (Only g w ((w5).setCell ⟨w.heap.size, 0, none⟩ (.int .i64 2))) := O5'.out.own (by omega) _ _
   have Br_6 : Hid (Bx ((w5).setCell ⟨w.heap.size, 0, none⟩ (.int .i64 2)) (w.heap.size) 98 #[.int .i64 2, .string ⟨#[]⟩, .string ⟨#[]⟩, .int .i64 0]) := Br_5.out.set 0 _
   have P7' : Hid (Prs (((w5).setCell ⟨w.heap.size, 0, none⟩ (.int .i64 2)).setCell ⟨w.heap.size, 1, none⟩ (.string (ofL x.1))) g E _) := P6'.out.own (by omega) _ _
   have O7' : Hid (Only g w (((w5).setCell ⟨w.heap.size, 0, none⟩ (.int .i64 2)).setCell ⟨w.heap.size, 1, none⟩ (.string (ofL x.1)))) := O6'.out.own (by omega) _ _
   have Br_7 : Hid (Bx (((w5).setCell ⟨w.heap.size, 0, none⟩ (.int .i64 2)).setCell ⟨w.heap.size, 1, none⟩ (.string (ofL x.1))) (w.heap.size) 98 #[.int .i64 2, .string (ofL x.1), .string ⟨#[]⟩, .int .i64 0]) := Br_6.out.set 1 _
   have P8' : Hid (Prs ((((w5).setCell ⟨w.heap.size, 0, none⟩ (.int .i64 2)).setCell ⟨w.heap.size, 1, none⟩ (.string (ofL x.1))).setCell ⟨w.heap.size, 2, none⟩ (.string (ofL x.2))) g E _) := P7'.out.own (by omega) _ _
   have O8' : Hid (Only g w ((((w5).setCell ⟨w.heap.size, 0, none⟩ (.int .i64 2)).setCell ⟨w.heap.size, 1, none⟩ (.string (ofL x.1))).setCell ⟨w.heap.size, 2, none⟩ (.string (ofL x.2)))) := O7'.out.own (by omega) _ _
   have Br_8 : Hid (Bx ((((w5).setCell ⟨w.heap.size, 0, none⟩ (.int .i64 2)).setCell ⟨w.heap.size, 1, none⟩ (.string (ofL x.1))).setCell ⟨w.heap.size, 2, none⟩ (.string (ofL x.2))) (w.heap.size) 98 #[.int .i64 2, .string (ofL x.1), .string (ofL x.2), .int .i64 0]) := Br_7.out.set 2 _
   have P9' : Hid (Prs (((((w5).setCell ⟨w.heap.size, 0, none⟩ (.int .i64 2)).setCell ⟨w.heap.size, 1, none⟩ (.string (ofL x.1))).setCell ⟨w.heap.size, 2, none⟩ (.string (ofL x.2))).setCell ⟨w.heap.size, 3, none⟩ (.int .i64 n)) g E _) := P8'.out.own (by omega) _ _
   have O9' : Hid (Only g w (((((w5).setCell ⟨w.heap.size, 0, none⟩ (.int .i64 2)).setCell ⟨w.heap.size, 1, none⟩ (.string (ofL x.1))).setCell ⟨w.heap.size, 2, none⟩ (.string (ofL x.2))).setCell ⟨w.heap.size, 3, none⟩ (.int .i64 n))) := O8'.out.own (by omega) _ _
   have Br_9 : Hid (Bx (((((w5).setCell ⟨w.heap.size, 0, none⟩ (.int .i64 2)).setCell ⟨w.heap.size, 1, none⟩ (.string (ofL x.1))).setCell ⟨w.heap.size, 2, none⟩ (.string (ofL x.2))).setCell ⟨w.heap.size, 3, none⟩ (.int .i64 n)) (w.heap.size) 98 #[.int .i64 2, .string (ofL x.1), .string (ofL x.2), .int .i64 n]) := Br_8.out.set 3 _
   refine bodyPost_ret (v := .agg #[.int .i64 2, .string (ofL x.1), .string (ofL x.2), .int .i64 n]) (bx_ret Br_9.out Tryz.results224 _ rfl Tryz.underlying98 rfl (by kernel_rfl)) rfl ?_
   exact ⟨rfl, P9'.out, O9'.out⟩
  ·have e4 : ((t.k : Int) == 1) = false := by simp; omega
   obtain ⟨s2, hs2⟩ : ∃ s2, (signedP E s1).2 = s2 := ⟨_, rfl⟩
   have HS2 := Lib.hid hs2
   obtain ⟨n, hv2⟩ : ∃ n, (signedP E s1).1 = n := ⟨_, rfl⟩
   have HV2 := Lib.hid hv2
   have HR := Lib.hid (show termP E s = (⟨1, [], [], n⟩, s2) by unfold termP; refine (take_no hb).trans ?_; rw [hs1]; show (if (nextT E s1).k = 1 then _ else _) = _; rw [if_neg (by rw [ht]; exact hk)]; subst hs2; subst hv2; rfl)
   rw [HR.out]
   clear h hb hk ht hs1 hs2 hv2
   go_enter Tryz.func224, Tryz.ntmps224
   have P1' : Hid (Prs ((w).alloc oSynO0) g E _) := H.out.alloc _
   have O1' : Hid (Only g w ((w).alloc oSynO0)) := HO.out.alloc _
   have Br_1 : Hid (Bx ((w).alloc oSynO0) (w.heap.size) 98 #[.int .i64 0, .string ⟨#[]⟩, .string ⟨#[]⟩, .int .i64 0]) := Bx.new2 (rfl)
   go_wp2_with fail
   refine (ptake_any P1'.out [108, 101, 110]).mono ?_; rintro e w2 ⟨rfl, P2, O2⟩
   rw [HS1.out] at P2
   rw [HB.out]
   have P2' := Lib.hid P2
   have O2' := Lib.hid (O1'.out.trans O2)
   have Br_2 := Lib.hid (Br_1.out.only O2 (by omega))
   have hz2 : w.heap.size + 1 ≤ w2.heap.size := by have := O2.size; simp only [size_alloc] at this; exact this
   clear P2 O2
   go_wp2_with fail
   refine (pnext_any P2'.out).mono ?_; rintro e w3 ⟨rfl, hb3⟩
   rw [HT.out]
   unfold tokA
   have O3 := (Only.refl g _).below hb3
   have P3 := P2'.out.below hb3 P2'.out.lt
   have P3' := Lib.hid P3
   have O3' := Lib.hid (O2'.out.trans O3)
   have Br_3 := Lib.hid (Br_2.out.only O3 (by omega))
   have hz3 : w2.heap.size ≤ w3.heap.size := O3.size
   clear P3 O3 hb3
   have hfl := fld_tok0
   go_wp2_with fail
   refine (psigned_any P3'.out).mono ?_; rintro e w4 ⟨rfl, P4, O4⟩
   rw [HS2.out] at P4
   rw [HV2.out]
   have P4' := Lib.hid P4
   have O4' := Lib.hid (O3'.out.trans O4)
   have Br_4 := Lib.hid (Br_3.out.only O4 (by omega))
   have hz4 : w3.heap.size ≤ w4.heap.size := O4.size
   clear P4 O4
   obtain ⟨cr_0, cr_1, cr_2, cr_3⟩ := Br_4.out.k4
   obtain ⟨fr_0, fr_1, fr_2, fr_3⟩ := Br_4.out.f4
   go_wp2_with fail
   have P5' : Hid (Prs ((w4).setCell ⟨w.heap.size, 0, none⟩ (.int .i64 1)) g E _) := P4'.out.own (by omega) _ _
   have O5' : Hid (Only g w ((w4).setCell ⟨w.heap.size, 0, none⟩ (.int .i64 1))) := O4'.out.own (by omega) _ _
   have Br_5 : Hid (Bx ((w4).setCell ⟨w.heap.size, 0, none⟩ (.int .i64 1)) (w.heap.size) 98 #[.int .i64 1, .string ⟨#[]⟩, .string ⟨#[]⟩, .int .i64 0]) := Br_4.out.set 0 _
   have P6' : Hid (Prs (((w4).setCell ⟨w.heap.size, 0, none⟩ (.int .i64 1)).setCell ⟨w.heap.size, 1, none⟩ (.string ⟨#[]⟩)) g E _) := P5'.out.own (by omega) _ _
   have O6' : Hid (Only g w (((w4).setCell ⟨w.heap.size, 0, none⟩ (.int .i64 1)).setCell ⟨w.heap.size, 1, none⟩ (.string ⟨#[]⟩))) := O5'.out.own (by omega) _ _
   have Br_6 : Hid (Bx (((w4).setCell ⟨w.heap.size, 0, none⟩ (.int .i64 1)).setCell ⟨w.heap.size, 1, none⟩ (.string ⟨#[]⟩)) (w.heap.size) 98 #[.int .i64 1, .string ⟨#[]⟩, .string ⟨#[]⟩, .int .i64 0]) := Br_5.out.set 1 _
   have P7' : Hid (Prs ((((w4).setCell ⟨w.heap.size, 0, none⟩ (.int .i64 1)).setCell ⟨w.heap.size, 1, none⟩ (.string ⟨#[]⟩)).setCell ⟨w.heap.size, 2, none⟩ (.string ⟨#[]⟩)) g E _) := P6'.out.own (by omega) _ _
   have O7' : Hid (Only g w ((((w4).setCell ⟨w.heap.size, 0, none⟩ (.int .i64 1)).setCell ⟨w.heap.size, 1, none⟩ (.string ⟨#[]⟩)).setCell ⟨w.heap.size, 2, none⟩ (.string ⟨#[]⟩))) := O6'.out.own (by omega) _ _
   have Br_7 : Hid (Bx ((((w4).setCell ⟨w.heap.size, 0, none⟩ (.int .i64 1)).setCell ⟨w.heap.size, 1, none⟩ (.string ⟨#[]⟩)).setCell ⟨w.heap.size, 2, none⟩ (.string ⟨#[]⟩)) (w.heap.size) 98 #[.int .i64 1, .string ⟨#[]⟩, .string ⟨#[]⟩, .int .i64 0]) := Br_6.out.set 2 _
   have P8' : Hid (Prs (((((w4).setCell ⟨w.heap.size, 0, none⟩ (.int .i64 1)).setCell ⟨w.heap.size, 1, none⟩ (.string ⟨#[]⟩)).setCell ⟨w.heap.size, 2, none⟩ (.string ⟨#[]⟩)).setCell ⟨w.heap.size, 3, none⟩ (.int .i64 n)) g E _) := P7'.out.own (by omega) _ _
   have O8' : Hid (Only g w (((((w4).setCell ⟨w.heap.size, 0, none⟩ (.int .i64 1)).setCell ⟨w.heap.size, 1, none⟩ (.string ⟨#[]⟩)).setCell ⟨w.heap.size, 2, none⟩ (.string ⟨#[]⟩)).setCell ⟨w.heap.size, 3, none⟩ (.int .i64 n))) := O7'.out.own (by omega) _ _
   have Br_8 : Hid (Bx (((((w4).setCell ⟨w.heap.size, 0, none⟩ (.int .i64 1)).setCell ⟨w.heap.size, 1, none⟩ (.string ⟨#[]⟩)).setCell ⟨w.heap.size, 2, none⟩ (.string ⟨#[]⟩)).setCell ⟨w.heap.size, 3, none⟩ (.int .i64 n)) (w.heap.size) 98 #[.int .i64 1, .string ⟨#[]⟩, .string ⟨#[]⟩, .int .i64 n]) := Br_7.out.set 3 _
   refine bodyPost_ret (v := .agg #[.int .i64 1, .string ⟨#[]⟩, .string ⟨#[]⟩, .int .i64 n]) (bx_ret Br_8.out Tryz.results224 _ rfl Tryz.underlying98 rfl (by kernel_rfl)) rfl ?_
   exact ⟨rfl, P8'.out, O8'.out⟩
set_option maxRecDepth 20000 in
set_option maxHeartbeats 800000 in
theorem patom_any (h : Prs w g E s) : Calls Tryz.prog 197 #[.pointer (some ⟨g, 0, none⟩)] w (Got w g E (atomP E s).2 (vA (atomP E s).1)) := by
 have H := Lib.hid h
 have hlt := h.lt
 have HO := Lib.hid (Only.refl g w)
 obtain ⟨s1, hs1⟩ : ∃ s1, (termP E s).2 = s1 := ⟨_, rfl⟩
 obtain ⟨l, hv1⟩ : ∃ l, (termP E s).1 = l := ⟨_, rfl⟩
 obtain ⟨s2, hs2⟩ : ∃ s2, (opP E s1).2 = s2 := ⟨_, rfl⟩
 obtain ⟨op, hv2⟩ : ∃ op, (opP E s1).1 = op := ⟨_, rfl⟩
 obtain ⟨s3, hs3⟩ : ∃ s3, (termP E s2).2 = s3 := ⟨_, rfl⟩
 obtain ⟨r, hv3⟩ : ∃ r, (termP E s2).1 = r := ⟨_, rfl⟩
 have HR := Lib.hid (show atomP E s = ((⟨l, op, r⟩ : Am), s3) by subst hs1; subst hv1; subst hs2; subst hv2; subst hs3; subst hv3;  rfl)
 rw [HR.out]
 have HS1 := Lib.hid hs1
 have HV1 := Lib.hid hv1
 have HS2 := Lib.hid hs2
 have HV2 := Lib.hid hv2
 have HS3 := Lib.hid hs3
 have HV3 := Lib.hid hv3
 clear hs1 hv1 hs2 hv2 hs3 hv3
 clear h
 go_enter Tryz.func197, Tryz.ntmps197
 have P1' : Hid (Prs ((w).alloc (.cells #[.int .i64 0, .string ⟨#[]⟩, .string ⟨#[]⟩, .int .i64 0, .string ⟨#[]⟩, .int .i64 0, .string ⟨#[]⟩, .string ⟨#[]⟩, .int .i64 0] 100)) g E _) := H.out.alloc _
 have O1' : Hid (Only g w ((w).alloc (.cells #[.int .i64 0, .string ⟨#[]⟩, .string ⟨#[]⟩, .int .i64 0, .string ⟨#[]⟩, .int .i64 0, .string ⟨#[]⟩, .string ⟨#[]⟩, .int .i64 0] 100))) := HO.out.alloc _
 have Br_1 : Hid (Bx ((w).alloc (.cells #[.int .i64 0, .string ⟨#[]⟩, .string ⟨#[]⟩, .int .i64 0, .string ⟨#[]⟩, .int .i64 0, .string ⟨#[]⟩, .string ⟨#[]⟩, .int .i64 0] 100)) (w.heap.size) 100 #[.int .i64 0, .string ⟨#[]⟩, .string ⟨#[]⟩, .int .i64 0, .string ⟨#[]⟩, .int .i64 0, .string ⟨#[]⟩, .string ⟨#[]⟩, .int .i64 0]) := Bx.new2 (rfl)
 go_wp2_with fail
 refine (pterm_any P1'.out).mono ?_; rintro e w2 ⟨rfl, P2, O2⟩
 rw [HS1.out] at P2
 rw [HV1.out]
 unfold vT
 have P2' := Lib.hid P2
 have O2' := Lib.hid (O1'.out.trans O2)
 have Br_2 := Lib.hid (Br_1.out.only O2 (by omega))
 have hz2 : w.heap.size + 1 ≤ w2.heap.size := by have := O2.size; simp only [size_alloc] at this; exact this
 clear P2 O2
 have P3' : Hid (Prs ((w2).alloc (.cells #[.int .i64 l.k, .string (ofL l.m), .string (ofL l.f), .int .i64 l.n] 98)) g E _) := P2'.out.alloc _
 have O3' : Hid (Only g w ((w2).alloc (.cells #[.int .i64 l.k, .string (ofL l.m), .string (ofL l.f), .int .i64 l.n] 98))) := O2'.out.alloc _
 have Br_3 : Hid (Bx ((w2).alloc (.cells #[.int .i64 l.k, .string (ofL l.m), .string (ofL l.f), .int .i64 l.n] 98)) (w.heap.size) _ _) := Br_2.out.alloc _
 have Bx_3 : Hid (Bx ((w2).alloc (.cells #[.int .i64 l.k, .string (ofL l.m), .string (ofL l.f), .int .i64 l.n] 98)) (w2.heap.size) 98 #[.int .i64 l.k, .string (ofL l.m), .string (ofL l.f), .int .i64 l.n]) := Bx.new2 (rfl)
 go_wp2_with fail
 refine (pop_any P3'.out).mono ?_; rintro e w4 ⟨rfl, P4, O4⟩
 rw [HS2.out] at P4
 rw [HV2.out]
 have P4' := Lib.hid P4
 have O4' := Lib.hid (O3'.out.trans O4)
 have Br_4 := Lib.hid (Br_3.out.only O4 (by omega))
 have Bx_4 := Lib.hid (Bx_3.out.only O4 (by omega))
 have hz4 : w2.heap.size + 1 ≤ w4.heap.size := by have := O4.size; simp only [size_alloc] at this; exact this
 clear P4 O4
 go_wp2_with fail
 refine (pterm_any P4'.out).mono ?_; rintro e w5 ⟨rfl, P5, O5⟩
 rw [HS3.out] at P5
 rw [HV3.out]
 unfold vT
 have P5' := Lib.hid P5
 have O5' := Lib.hid (O4'.out.trans O5)
 have Br_5 := Lib.hid (Br_4.out.only O5 (by omega))
 have Bx_5 := Lib.hid (Bx_4.out.only O5 (by omega))
 have hz5 : w4.heap.size ≤ w5.heap.size := O5.size
 clear P5 O5
 have P6' : Hid (Prs ((w5).alloc (.cells #[.int .i64 r.k, .string (ofL r.m), .string (ofL r.f), .int .i64 r.n] 98)) g E _) := P5'.out.alloc _
 have O6' : Hid (Only g w ((w5).alloc (.cells #[.int .i64 r.k, .string (ofL r.m), .string (ofL r.f), .int .i64 r.n] 98))) := O5'.out.alloc _
 have Br_6 : Hid (Bx ((w5).alloc (.cells #[.int .i64 r.k, .string (ofL r.m), .string (ofL r.f), .int .i64 r.n] 98)) (w.heap.size) _ _) := Br_5.out.alloc _
 have Bx_6 : Hid (Bx ((w5).alloc (.cells #[.int .i64 r.k, .string (ofL r.m), .string (ofL r.f), .int .i64 r.n] 98)) (w2.heap.size) _ _) := Bx_5.out.alloc _
 have By_6 : Hid (Bx ((w5).alloc (.cells #[.int .i64 r.k, .string (ofL r.m), .string (ofL r.f), .int .i64 r.n] 98)) (w5.heap.size) 98 #[.int .i64 r.k, .string (ofL r.m), .string (ofL r.f), .int .i64 r.n]) := Bx.new2 (rfl)
 obtain ⟨cr_0, cr_1, cr_2, cr_3, cr_4, cr_5, cr_6, cr_7, cr_8⟩ := Br_6.out.k9
 obtain ⟨fr_0, fr_1, fr_2, fr_3, fr_4, fr_5, fr_6, fr_7, fr_8⟩ := Br_6.out.f9
 obtain ⟨cx_0, cx_1, cx_2, cx_3⟩ := Bx_6.out.k4
 obtain ⟨fx_0, fx_1, fx_2, fx_3⟩ := Bx_6.out.f4
 obtain ⟨cy_0, cy_1, cy_2, cy_3⟩ := By_6.out.k4
 obtain ⟨fy_0, fy_1, fy_2, fy_3⟩ := By_6.out.f4
 go_wp2_with fail
 have P7' : Hid (Prs (((w5).alloc (.cells #[.int .i64 r.k, .string (ofL r.m), .string (ofL r.f), .int .i64 r.n] 98)).setCell ⟨w.heap.size, 0, none⟩ (.int .i64 l.k)) g E _) := P6'.out.own (by omega) _ _
 have O7' : Hid (Only g w (((w5).alloc (.cells #[.int .i64 r.k, .string (ofL r.m), .string (ofL r.f), .int .i64 r.n] 98)).setCell ⟨w.heap.size, 0, none⟩ (.int .i64 l.k))) := O6'.out.own (by omega) _ _
 have Br_7 : Hid (Bx (((w5).alloc (.cells #[.int .i64 r.k, .string (ofL r.m), .string (ofL r.f), .int .i64 r.n] 98)).setCell ⟨w.heap.size, 0, none⟩ (.int .i64 l.k)) (w.heap.size) 100 #[.int .i64 l.k, .string ⟨#[]⟩, .string ⟨#[]⟩, .int .i64 0, .string ⟨#[]⟩, .int .i64 0, .string ⟨#[]⟩, .string ⟨#[]⟩, .int .i64 0]) := Br_6.out.set 0 _
 have Bx_7 : Hid (Bx (((w5).alloc (.cells #[.int .i64 r.k, .string (ofL r.m), .string (ofL r.f), .int .i64 r.n] 98)).setCell ⟨w.heap.size, 0, none⟩ (.int .i64 l.k)) (w2.heap.size) _ _) := Bx_6.out.other (by omega)
 have By_7 : Hid (Bx (((w5).alloc (.cells #[.int .i64 r.k, .string (ofL r.m), .string (ofL r.f), .int .i64 r.n] 98)).setCell ⟨w.heap.size, 0, none⟩ (.int .i64 l.k)) (w5.heap.size) _ _) := By_6.out.other (by omega)
 have P8' : Hid (Prs ((((w5).alloc (.cells #[.int .i64 r.k, .string (ofL r.m), .string (ofL r.f), .int .i64 r.n] 98)).setCell ⟨w.heap.size, 0, none⟩ (.int .i64 l.k)).setCell ⟨w.heap.size, 1, none⟩ (.string (ofL l.m))) g E _) := P7'.out.own (by omega) _ _
 have O8' : Hid (Only g w ((((w5).alloc (.cells #[.int .i64 r.k, .string (ofL r.m), .string (ofL r.f), .int .i64 r.n] 98)).setCell ⟨w.heap.size, 0, none⟩ (.int .i64 l.k)).setCell ⟨w.heap.size, 1, none⟩ (.string (ofL l.m)))) := O7'.out.own (by omega) _ _
 have Br_8 : Hid (Bx ((((w5).alloc (.cells #[.int .i64 r.k, .string (ofL r.m), .string (ofL r.f), .int .i64 r.n] 98)).setCell ⟨w.heap.size, 0, none⟩ (.int .i64 l.k)).setCell ⟨w.heap.size, 1, none⟩ (.string (ofL l.m))) (w.heap.size) 100 #[.int .i64 l.k, .string (ofL l.m), .string ⟨#[]⟩, .int .i64 0, .string ⟨#[]⟩, .int .i64 0, .string ⟨#[]⟩, .string ⟨#[]⟩, .int .i64 0]) := Br_7.out.set 1 _
 have Bx_8 : Hid (Bx ((((w5).alloc (.cells #[.int .i64 r.k, .string (ofL r.m), .string (ofL r.f), .int .i64 r.n] 98)).setCell ⟨w.heap.size, 0, none⟩ (.int .i64 l.k)).setCell ⟨w.heap.size, 1, none⟩ (.string (ofL l.m))) (w2.heap.size) _ _) := Bx_7.out.other (by omega)
 have By_8 : Hid (Bx ((((w5).alloc (.cells #[.int .i64 r.k, .string (ofL r.m), .string (ofL r.f), .int .i64 r.n] 98)).setCell ⟨w.heap.size, 0, none⟩ (.int .i64 l.k)).setCell ⟨w.heap.size, 1, none⟩ (.string (ofL l.m))) (w5.heap.size) _ _) := By_7.out.other (by omega)
 have P9' : Hid (Prs (((((w5).alloc (.cells #[.int .i64 r.k, .string (ofL r.m), .string (ofL r.f), .int .i64 r.n] 98)).setCell ⟨w.heap.size, 0, none⟩ (.int .i64 l.k)).setCell ⟨w.heap.size, 1, none⟩ (.string (ofL l.m))).setCell ⟨w.heap.size, 2, none⟩ (.string (ofL l.f))) g E _) := P8'.out.own (by omega) _ _
 have O9' : Hid (Only g w (((((w5).alloc (.cells #[.int .i64 r.k, .string (ofL r.m), .string (ofL r.f), .int .i64 r.n] 98)).setCell ⟨w.heap.size, 0, none⟩ (.int .i64 l.k)).setCell ⟨w.heap.size, 1, none⟩ (.string (ofL l.m))).setCell ⟨w.heap.size, 2, none⟩ (.string (ofL l.f)))) := O8'.out.own (by omega) _ _
 have Br_9 : Hid (Bx (((((w5).alloc (.cells #[.int .i64 r.k, .string (ofL r.m), .string (ofL r.f), .int .i64 r.n] 98)).setCell ⟨w.heap.size, 0, none⟩ (.int .i64 l.k)).setCell ⟨w.heap.size, 1, none⟩ (.string (ofL l.m))).setCell ⟨w.heap.size, 2, none⟩ (.string (ofL l.f))) (w.heap.size) 100 #[.int .i64 l.k, .string (ofL l.m), .string (ofL l.f), .int .i64 0, .string ⟨#[]⟩, .int .i64 0, .string ⟨#[]⟩, .string ⟨#[]⟩, .int .i64 0]) := Br_8.out.set 2 _
 have Bx_9 : Hid (Bx (((((w5).alloc (.cells #[.int .i64 r.k, .string (ofL r.m), .string (ofL r.f), .int .i64 r.n] 98)).setCell ⟨w.heap.size, 0, none⟩ (.int .i64 l.k)).setCell ⟨w.heap.size, 1, none⟩ (.string (ofL l.m))).setCell ⟨w.heap.size, 2, none⟩ (.string (ofL l.f))) (w2.heap.size) _ _) := Bx_8.out.other (by omega)
 have By_9 : Hid (Bx (((((w5).alloc (.cells #[.int .i64 r.k, .string (ofL r.m), .string (ofL r.f), .int .i64 r.n] 98)).setCell ⟨w.heap.size, 0, none⟩ (.int .i64 l.k)).setCell ⟨w.heap.size, 1, none⟩ (.string (ofL l.m))).setCell ⟨w.heap.size, 2, none⟩ (.string (ofL l.f))) (w5.heap.size) _ _) := By_8.out.other (by omega)
 have P10' : Hid (Prs ((((((w5).alloc (.cells #[.int .i64 r.k, .string (ofL r.m), .string (ofL r.f), .int .i64 r.n] 98)).setCell ⟨w.heap.size, 0, none⟩ (.int .i64 l.k)).setCell ⟨w.heap.size, 1, none⟩ (.string (ofL l.m))).setCell ⟨w.heap.size, 2, none⟩ (.string (ofL l.f))).setCell ⟨w.heap.size, 3, none⟩ (.int .i64 l.n)) g E _) := P9'.out.own (by omega) _ _
 have O10' : Hid (Only g w ((((((w5).alloc (.cells #[.int .i64 r.k, .string (ofL r.m), .string (ofL r.f), .int .i64 r.n] 98)).setCell ⟨w.heap.size, 0, none⟩ (.int .i64 l.k)).setCell ⟨w.heap.size, 1, none⟩ (.string (ofL l.m))).setCell ⟨w.heap.size, 2, none⟩ (.string (ofL l.f))).setCell ⟨w.heap.size, 3, none⟩ (.int .i64 l.n))) := O9'.out.own (by omega) _ _
 have Br_10 : Hid (Bx ((((((w5).alloc (.cells #[.int .i64 r.k, .string (ofL r.m), .string (ofL r.f), .int .i64 r.n] 98)).setCell ⟨w.heap.size, 0, none⟩ (.int .i64 l.k)).setCell ⟨w.heap.size, 1, none⟩ (.string (ofL l.m))).setCell ⟨w.heap.size, 2, none⟩ (.string (ofL l.f))).setCell ⟨w.heap.size, 3, none⟩ (.int .i64 l.n)) (w.heap.size) 100 #[.int .i64 l.k, .string (ofL l.m), .string (ofL l.f), .int .i64 l.n, .string ⟨#[]⟩, .int .i64 0, .string ⟨#[]⟩, .string ⟨#[]⟩, .int .i64 0]) := Br_9.out.set 3 _
 have Bx_10 : Hid (Bx ((((((w5).alloc (.cells #[.int .i64 r.k, .string (ofL r.m), .string (ofL r.f), .int .i64 r.n] 98)).setCell ⟨w.heap.size, 0, none⟩ (.int .i64 l.k)).setCell ⟨w.heap.size, 1, none⟩ (.string (ofL l.m))).setCell ⟨w.heap.size, 2, none⟩ (.string (ofL l.f))).setCell ⟨w.heap.size, 3, none⟩ (.int .i64 l.n)) (w2.heap.size) _ _) := Bx_9.out.other (by omega)
 have By_10 : Hid (Bx ((((((w5).alloc (.cells #[.int .i64 r.k, .string (ofL r.m), .string (ofL r.f), .int .i64 r.n] 98)).setCell ⟨w.heap.size, 0, none⟩ (.int .i64 l.k)).setCell ⟨w.heap.size, 1, none⟩ (.string (ofL l.m))).setCell ⟨w.heap.size, 2, none⟩ (.string (ofL l.f))).setCell ⟨w.heap.size, 3, none⟩ (.int .i64 l.n)) (w5.heap.size) _ _) := By_9.out.other (by omega)
 have P11' : Hid (Prs (((((((w5).alloc (.cells #[.int .i64 r.k, .string (ofL r.m), .string (ofL r.f), .int .i64 r.n] 98)).setCell ⟨w.heap.size, 0, none⟩ (.int .i64 l.k)).setCell ⟨w.heap.size, 1, none⟩ (.string (ofL l.m))).setCell ⟨w.heap.size, 2, none⟩ (.string (ofL l.f))).setCell ⟨w.heap.size, 3, none⟩ (.int .i64 l.n)).setCell ⟨w.heap.size, 4, none⟩ (.string (ofL op))) g E _) := P10'.out.own (by omega) _ _
 have O11' : Hid (Only g w (((((((w5).alloc (.cells #[.int .i64 r.k, .string (ofL r.m), .string (ofL r.f), .int .i64 r.n] 98)).setCell ⟨w.heap.size, 0, none⟩ (.int .i64 l.k)).setCell ⟨w.heap.size, 1, none⟩ (.string (ofL l.m))).setCell ⟨w.heap.size, 2, none⟩ (.string (ofL l.f))).setCell ⟨w.heap.size, 3, none⟩ (.int .i64 l.n)).setCell ⟨w.heap.size, 4, none⟩ (.string (ofL op)))) := O10'.out.own (by omega) _ _
 have Br_11 : Hid (Bx (((((((w5).alloc (.cells #[.int .i64 r.k, .string (ofL r.m), .string (ofL r.f), .int .i64 r.n] 98)).setCell ⟨w.heap.size, 0, none⟩ (.int .i64 l.k)).setCell ⟨w.heap.size, 1, none⟩ (.string (ofL l.m))).setCell ⟨w.heap.size, 2, none⟩ (.string (ofL l.f))).setCell ⟨w.heap.size, 3, none⟩ (.int .i64 l.n)).setCell ⟨w.heap.size, 4, none⟩ (.string (ofL op))) (w.heap.size) 100 #[.int .i64 l.k, .string (ofL l.m), .string (ofL l.f), .int .i64 l.n, .string (ofL op), .int .i64 0, .string ⟨#[]⟩, .string ⟨#[]⟩, .int .i64 0]) := Br_10.out.set 4 _
 have Bx_11 : Hid (Bx (((((((w5).alloc (.cells #[.int .i64 r.k, .string (ofL r.m), .string (ofL r.f), .int .i64 r.n] 98)).setCell ⟨w.heap.size, 0, none⟩ (.int .i64 l.k)).setCell ⟨w.heap.size, 1, none⟩ (.string (ofL l.m))).setCell ⟨w.heap.size, 2, none⟩ (.string (ofL l.f))).setCell ⟨w.heap.size, 3, none⟩ (.int .i64 l.n)).setCell ⟨w.heap.size, 4, none⟩ (.string (ofL op))) (w2.heap.size) _ _) := Bx_10.out.other (by omega)
 have By_11 : Hid (Bx (((((((w5).alloc (.cells #[.int .i64 r.k, .string (ofL r.m), .string (ofL r.f), .int .i64 r.n] 98)).setCell ⟨w.heap.size, 0, none⟩ (.int .i64 l.k)).setCell ⟨w.heap.size, 1, none⟩ (.string (ofL l.m))).setCell ⟨w.heap.size, 2, none⟩ (.string (ofL l.f))).setCell ⟨w.heap.size, 3, none⟩ (.int .i64 l.n)).setCell ⟨w.heap.size, 4, none⟩ (.string (ofL op))) (w5.heap.size) _ _) := By_10.out.other (by omega)
 have P12' : Hid (Prs ((((((((w5).alloc (.cells #[.int .i64 r.k, .string (ofL r.m), .string (ofL r.f), .int .i64 r.n] 98)).setCell ⟨w.heap.size, 0, none⟩ (.int .i64 l.k)).setCell ⟨w.heap.size, 1, none⟩ (.string (ofL l.m))).setCell ⟨w.heap.size, 2, none⟩ (.string (ofL l.f))).setCell ⟨w.heap.size, 3, none⟩ (.int .i64 l.n)).setCell ⟨w.heap.size, 4, none⟩ (.string (ofL op))).setCell ⟨w.heap.size, 5, none⟩ (.int .i64 r.k)) g E _) := P11'.out.own (by omega) _ _
 have O12' : Hid (Only g w ((((((((w5).alloc (.cells #[.int .i64 r.k, .string (ofL r.m), .string (ofL r.f), .int .i64 r.n] 98)).setCell ⟨w.heap.size, 0, none⟩ (.int .i64 l.k)).setCell ⟨w.heap.size, 1, none⟩ (.string (ofL l.m))).setCell ⟨w.heap.size, 2, none⟩ (.string (ofL l.f))).setCell ⟨w.heap.size, 3, none⟩ (.int .i64 l.n)).setCell ⟨w.heap.size, 4, none⟩ (.string (ofL op))).setCell ⟨w.heap.size, 5, none⟩ (.int .i64 r.k))) := O11'.out.own (by omega) _ _
 have Br_12 : Hid (Bx ((((((((w5).alloc (.cells #[.int .i64 r.k, .string (ofL r.m), .string (ofL r.f), .int .i64 r.n] 98)).setCell ⟨w.heap.size, 0, none⟩ (.int .i64 l.k)).setCell ⟨w.heap.size, 1, none⟩ (.string (ofL l.m))).setCell ⟨w.heap.size, 2, none⟩ (.string (ofL l.f))).setCell ⟨w.heap.size, 3, none⟩ (.int .i64 l.n)).setCell ⟨w.heap.size, 4, none⟩ (.string (ofL op))).setCell ⟨w.heap.size, 5, none⟩ (.int .i64 r.k)) (w.heap.size) 100 #[.int .i64 l.k, .string (ofL l.m), .string (ofL l.f), .int .i64 l.n, .string (ofL op), .int .i64 r.k, .string ⟨#[]⟩, .string ⟨#[]⟩, .int .i64 0]) := Br_11.out.set 5 _
 have Bx_12 : Hid (Bx ((((((((w5).alloc (.cells #[.int .i64 r.k, .string (ofL r.m), .string (ofL r.f), .int .i64 r.n] 98)).setCell ⟨w.heap.size, 0, none⟩ (.int .i64 l.k)).setCell ⟨w.heap.size, 1, none⟩ (.string (ofL l.m))).setCell ⟨w.heap.size, 2, none⟩ (.string (ofL l.f))).setCell ⟨w.heap.size, 3, none⟩ (.int .i64 l.n)).setCell ⟨w.heap.size, 4, none⟩ (.string (ofL op))).setCell ⟨w.heap.size, 5, none⟩ (.int .i64 r.k)) (w2.heap.size) _ _) := Bx_11.out.other (by omega)
 have By_12 : Hid (Bx ((((((((w5).alloc (.cells #[.int .i64 r.k, .string (ofL r.m), .string (ofL r.f), .int .i64 r.n] 98)).setCell ⟨w.heap.size, 0, none⟩ (.int .i64 l.k)).setCell ⟨w.heap.size, 1, none⟩ (.string (ofL l.m))).setCell ⟨w.heap.size, 2, none⟩ (.string (ofL l.f))).setCell ⟨w.heap.size, 3, none⟩ (.int .i64 l.n)).setCell ⟨w.heap.size, 4, none⟩ (.string (ofL op))).setCell ⟨w.heap.size, 5, none⟩ (.int .i64 r.k)) (w5.heap.size) _ _) := By_11.out.other (by omega)
 have P13' : Hid (Prs (((((((((w5).alloc (.cells #[.int .i64 r.k, .string (ofL r.m), .string (ofL r.f), .int .i64 r.n] 98)).setCell ⟨w.heap.size, 0, none⟩ (.int .i64 l.k)).setCell ⟨w.heap.size, 1, none⟩ (.string (ofL l.m))).setCell ⟨w.heap.size, 2, none⟩ (.string (ofL l.f))).setCell ⟨w.heap.size, 3, none⟩ (.int .i64 l.n)).setCell ⟨w.heap.size, 4, none⟩ (.string (ofL op))).setCell ⟨w.heap.size, 5, none⟩ (.int .i64 r.k)).setCell ⟨w.heap.size, 6, none⟩ (.string (ofL r.m))) g E _) := P12'.out.own (by omega) _ _
 have O13' : Hid (Only g w (((((((((w5).alloc (.cells #[.int .i64 r.k, .string (ofL r.m), .string (ofL r.f), .int .i64 r.n] 98)).setCell ⟨w.heap.size, 0, none⟩ (.int .i64 l.k)).setCell ⟨w.heap.size, 1, none⟩ (.string (ofL l.m))).setCell ⟨w.heap.size, 2, none⟩ (.string (ofL l.f))).setCell ⟨w.heap.size, 3, none⟩ (.int .i64 l.n)).setCell ⟨w.heap.size, 4, none⟩ (.string (ofL op))).setCell ⟨w.heap.size, 5, none⟩ (.int .i64 r.k)).setCell ⟨w.heap.size, 6, none⟩ (.string (ofL r.m)))) := O12'.out.own (by omega) _ _
 have Br_13 : Hid (Bx (((((((((w5).alloc (.cells #[.int .i64 r.k, .string (ofL r.m), .string (ofL r.f), .int .i64 r.n] 98)).setCell ⟨w.heap.size, 0, none⟩ (.int .i64 l.k)).setCell ⟨w.heap.size, 1, none⟩ (.string (ofL l.m))).setCell ⟨w.heap.size, 2, none⟩ (.string (ofL l.f))).setCell ⟨w.heap.size, 3, none⟩ (.int .i64 l.n)).setCell ⟨w.heap.size, 4, none⟩ (.string (ofL op))).setCell ⟨w.heap.size, 5, none⟩ (.int .i64 r.k)).setCell ⟨w.heap.size, 6, none⟩ (.string (ofL r.m))) (w.heap.size) 100 #[.int .i64 l.k, .string (ofL l.m), .string (ofL l.f), .int .i64 l.n, .string (ofL op), .int .i64 r.k, .string (ofL r.m), .string ⟨#[]⟩, .int .i64 0]) := Br_12.out.set 6 _
 have Bx_13 : Hid (Bx (((((((((w5).alloc (.cells #[.int .i64 r.k, .string (ofL r.m), .string (ofL r.f), .int .i64 r.n] 98)).setCell ⟨w.heap.size, 0, none⟩ (.int .i64 l.k)).setCell ⟨w.heap.size, 1, none⟩ (.string (ofL l.m))).setCell ⟨w.heap.size, 2, none⟩ (.string (ofL l.f))).setCell ⟨w.heap.size, 3, none⟩ (.int .i64 l.n)).setCell ⟨w.heap.size, 4, none⟩ (.string (ofL op))).setCell ⟨w.heap.size, 5, none⟩ (.int .i64 r.k)).setCell ⟨w.heap.size, 6, none⟩ (.string (ofL r.m))) (w2.heap.size) _ _) := Bx_12.out.other (by omega)
 have By_13 : Hid (Bx (((((((((w5).alloc (.cells #[.int .i64 r.k, .string (ofL r.m), .string (ofL r.f), .int .i64 r.n] 98)).setCell ⟨w.heap.size, 0, none⟩ (.int .i64 l.k)).setCell ⟨w.heap.size, 1, none⟩ (.string (ofL l.m))).setCell ⟨w.heap.size, 2, none⟩ (.string (ofL l.f))).setCell ⟨w.heap.size, 3, none⟩ (.int .i64 l.n)).setCell ⟨w.heap.size, 4, none⟩ (.string (ofL op))).setCell ⟨w.heap.size, 5, none⟩ (.int .i64 r.k)).setCell ⟨w.heap.size, 6, none⟩ (.string (ofL r.m))) (w5.heap.size) _ _) := By_12.out.other (by omega)
 have P14' : Hid (Prs ((((((((((w5).alloc (.cells #[.int .i64 r.k, .string (ofL r.m), .string (ofL r.f), .int .i64 r.n] 98)).setCell ⟨w.heap.size, 0, none⟩ (.int .i64 l.k)).setCell ⟨w.heap.size, 1, none⟩ (.string (ofL l.m))).setCell ⟨w.heap.size, 2, none⟩ (.string (ofL l.f))).setCell ⟨w.heap.size, 3, none⟩ (.int .i64 l.n)).setCell ⟨w.heap.size, 4, none⟩ (.string (ofL op))).setCell ⟨w.heap.size, 5, none⟩ (.int .i64 r.k)).setCell ⟨w.heap.size, 6, none⟩ (.string (ofL r.m))).setCell ⟨w.heap.size, 7, none⟩ (.string (ofL r.f))) g E _) := P13'.out.own (by omega) _ _
 have O14' : Hid (Only g w ((((((((((w5).alloc (.cells #[.int .i64 r.k, .string (ofL r.m), .string (ofL r.f), .int .i64 r.n] 98)).setCell ⟨w.heap.size, 0, none⟩ (.int .i64 l.k)).setCell ⟨w.heap.size, 1, none⟩ (.string (ofL l.m))).setCell ⟨w.heap.size, 2, none⟩ (.string (ofL l.f))).setCell ⟨w.heap.size, 3, none⟩ (.int .i64 l.n)).setCell ⟨w.heap.size, 4, none⟩ (.string (ofL op))).setCell ⟨w.heap.size, 5, none⟩ (.int .i64 r.k)).setCell ⟨w.heap.size, 6, none⟩ (.string (ofL r.m))).setCell ⟨w.heap.size, 7, none⟩ (.string (ofL r.f)))) := O13'.out.own (by omega) _ _
 have Br_14 : Hid (Bx ((((((((((w5).alloc (.cells #[.int .i64 r.k, .string (ofL r.m), .string (ofL r.f), .int .i64 r.n] 98)).setCell ⟨w.heap.size, 0, none⟩ (.int .i64 l.k)).setCell ⟨w.heap.size, 1, none⟩ (.string (ofL l.m))).setCell ⟨w.heap.size, 2, none⟩ (.string (ofL l.f))).setCell ⟨w.heap.size, 3, none⟩ (.int .i64 l.n)).setCell ⟨w.heap.size, 4, none⟩ (.string (ofL op))).setCell ⟨w.heap.size, 5, none⟩ (.int .i64 r.k)).setCell ⟨w.heap.size, 6, none⟩ (.string (ofL r.m))).setCell ⟨w.heap.size, 7, none⟩ (.string (ofL r.f))) (w.heap.size) 100 #[.int .i64 l.k, .string (ofL l.m), .string (ofL l.f), .int .i64 l.n, .string (ofL op), .int .i64 r.k, .string (ofL r.m), .string (ofL r.f), .int .i64 0]) := Br_13.out.set 7 _
 have Bx_14 : Hid (Bx ((((((((((w5).alloc (.cells #[.int .i64 r.k, .string (ofL r.m), .string (ofL r.f), .int .i64 r.n] 98)).setCell ⟨w.heap.size, 0, none⟩ (.int .i64 l.k)).setCell ⟨w.heap.size, 1, none⟩ (.string (ofL l.m))).setCell ⟨w.heap.size, 2, none⟩ (.string (ofL l.f))).setCell ⟨w.heap.size, 3, none⟩ (.int .i64 l.n)).setCell ⟨w.heap.size, 4, none⟩ (.string (ofL op))).setCell ⟨w.heap.size, 5, none⟩ (.int .i64 r.k)).setCell ⟨w.heap.size, 6, none⟩ (.string (ofL r.m))).setCell ⟨w.heap.size, 7, none⟩ (.string (ofL r.f))) (w2.heap.size) _ _) := Bx_13.out.other (by omega)
 have By_14 : Hid (Bx ((((((((((w5).alloc (.cells #[.int .i64 r.k, .string (ofL r.m), .string (ofL r.f), .int .i64 r.n] 98)).setCell ⟨w.heap.size, 0, none⟩ (.int .i64 l.k)).setCell ⟨w.heap.size, 1, none⟩ (.string (ofL l.m))).setCell ⟨w.heap.size, 2, none⟩ (.string (ofL l.f))).setCell ⟨w.heap.size, 3, none⟩ (.int .i64 l.n)).setCell ⟨w.heap.size, 4, none⟩ (.string (ofL op))).setCell ⟨w.heap.size, 5, none⟩ (.int .i64 r.k)).setCell ⟨w.heap.size, 6, none⟩ (.string (ofL r.m))).setCell ⟨w.heap.size, 7, none⟩ (.string (ofL r.f))) (w5.heap.size) _ _) := By_13.out.other (by omega)
 have P15' : Hid (Prs (((((((((((w5).alloc (.cells #[.int .i64 r.k, .string (ofL r.m), .string (ofL r.f), .int .i64 r.n] 98)).setCell ⟨w.heap.size, 0, none⟩ (.int .i64 l.k)).setCell ⟨w.heap.size, 1, none⟩ (.string (ofL l.m))).setCell ⟨w.heap.size, 2, none⟩ (.string (ofL l.f))).setCell ⟨w.heap.size, 3, none⟩ (.int .i64 l.n)).setCell ⟨w.heap.size, 4, none⟩ (.string (ofL op))).setCell ⟨w.heap.size, 5, none⟩ (.int .i64 r.k)).setCell ⟨w.heap.size, 6, none⟩ (.string (ofL r.m))).setCell ⟨w.heap.size, 7, none⟩ (.string (ofL r.f))).setCell ⟨w.heap.size, 8, none⟩ (.int .i64 r.n)) g E _) := P14'.out.own (by omega) _ _
 have O15' : Hid (Only g w (((((((((((w5).alloc (.cells #[.int .i64 r.k, .string (ofL r.m), .string (ofL r.f), .int .i64 r.n] 98)).setCell ⟨w.heap.size, 0, none⟩ (.int .i64 l.k)).setCell ⟨w.heap.size, 1, none⟩ (.string (ofL l.m))).setCell ⟨w.heap.size, 2, none⟩ (.string (ofL l.f))).setCell ⟨w.heap.size, 3, none⟩ (.int .i64 l.n)).setCell ⟨w.heap.size, 4, none⟩ (.string (ofL op))).setCell ⟨w.heap.size, 5, none⟩ (.int .i64 r.k)).setCell ⟨w.heap.size, 6, none⟩ (.string (ofL r.m))).setCell ⟨w.heap.size, 7, none⟩ (.string (ofL r.f))).setCell ⟨w.heap.size, 8, none⟩ (.int .i64 r.n))) := O14'.out.own (by omega) _ _
 have Br_15 : Hid (Bx (((((((((((w5).alloc (.cells #[.int .i64 r.k, .string (ofL r.m), .string (ofL r.f), .int .i64 r.n] 98)).setCell ⟨w.heap.size, 0, none⟩ (.int .i64 l.k)).setCell ⟨w.heap.size, 1, none⟩ (.string (ofL l.m))).setCell ⟨w.heap.size, 2, none⟩ (.string (ofL l.f))).setCell ⟨w.heap.size, 3, none⟩ (.int .i64 l.n)).setCell ⟨w.heap.size, 4, none⟩ (.string (ofL op))).setCell ⟨w.heap.size, 5, none⟩ (.int .i64 r.k)).setCell ⟨w.heap.size, 6, none⟩ (.string (ofL r.m))).setCell ⟨w.heap.size, 7, none⟩ (.string (ofL r.f))).setCell ⟨w.heap.size, 8, none⟩ (.int .i64 r.n)) (w.heap.size) 100 #[.int .i64 l.k, .string (ofL l.m), .string (ofL l.f), .int .i64 l.n, .string (ofL op), .int .i64 r.k, .string (ofL r.m), .string (ofL r.f), .int .i64 r.n]) := Br_14.out.set 8 _
 have Bx_15 : Hid (Bx (((((((((((w5).alloc (.cells #[.int .i64 r.k, .string (ofL r.m), .string (ofL r.f), .int .i64 r.n] 98)).setCell ⟨w.heap.size, 0, none⟩ (.int .i64 l.k)).setCell ⟨w.heap.size, 1, none⟩ (.string (ofL l.m))).setCell ⟨w.heap.size, 2, none⟩ (.string (ofL l.f))).setCell ⟨w.heap.size, 3, none⟩ (.int .i64 l.n)).setCell ⟨w.heap.size, 4, none⟩ (.string (ofL op))).setCell ⟨w.heap.size, 5, none⟩ (.int .i64 r.k)).setCell ⟨w.heap.size, 6, none⟩ (.string (ofL r.m))).setCell ⟨w.heap.size, 7, none⟩ (.string (ofL r.f))).setCell ⟨w.heap.size, 8, none⟩ (.int .i64 r.n)) (w2.heap.size) _ _) := Bx_14.out.other (by omega)
 have By_15 : Hid (Bx (((((((((((w5).alloc (.cells #[.int .i64 r.k, .string (ofL r.m), .string (ofL r.f), .int .i64 r.n] 98)).setCell ⟨w.heap.size, 0, none⟩ (.int .i64 l.k)).setCell ⟨w.heap.size, 1, none⟩ (.string (ofL l.m))).setCell ⟨w.heap.size, 2, none⟩ (.string (ofL l.f))).setCell ⟨w.heap.size, 3, none⟩ (.int .i64 l.n)).setCell ⟨w.heap.size, 4, none⟩ (.string (ofL op))).setCell ⟨w.heap.size, 5, none⟩ (.int .i64 r.k)).setCell ⟨w.heap.size, 6, none⟩ (.string (ofL r.m))).setCell ⟨w.heap.size, 7, none⟩ (.string (ofL r.f))).setCell ⟨w.heap.size, 8, none⟩ (.int .i64 r.n)) (w5.heap.size) _ _) := By_14.out.other (by omega)
 refine bodyPost_ret (v := .agg #[.int .i64 l.k, .string (ofL l.m), .string (ofL l.f), .int .i64 l.n, .string (ofL op), .int .i64 r.k, .string (ofL r.m), .string (ofL r.f), .int .i64 r.n]) (bx_ret Br_15.out Tryz.results197 _ rfl Tryz.underlying100 rfl (by kernel_rfl)) rfl ?_
 exact ⟨rfl, P15'.out, O15'.out⟩
end
end Go.Proofs.YtekpefcggikcbaaGreatDoor
