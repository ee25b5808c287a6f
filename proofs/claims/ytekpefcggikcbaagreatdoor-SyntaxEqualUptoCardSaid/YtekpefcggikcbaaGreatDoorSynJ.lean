/- Layer 10: the contracts of par and choice. -/
import Derived.Test.YtekpefcggikcbaaGreatDoorMRegInv
namespace Go.Proofs.YtekpefcggikcbaaGreatDoor
open Go.RowKit
abbrev oSynJ0 : Obj := .cells #[.int .i64 0, .string ⟨#[]⟩, .slice none 0 0, .string ⟨#[]⟩, .string ⟨#[]⟩, .int .i64 0, .slice none 0 0] 70
abbrev oSynJ1 : Obj := .cells #[.int .i64 2, .string ⟨#[]⟩, .slice none 0 0, .string ⟨#[]⟩, .string ⟨#[]⟩, .int .i64 0, .slice none 0 0] 70

section
variable {w w' : World} {g E n : Nat} {s : St} {p : P (List It)}
theorem sepL_len {α : Type} {mark : Bs} {rd : P α} : ∀ (n : Nat) (s : St), (sepL E mark rd n s).1.length ≤ n
 | 0, s => by simp [sepL, P.pure_run]
 | n + 1, s => by
  cases ht : (takeP E mark s).1 with
  | false => rw [sepL_no _ ht]; simp
  | true =>
   rw [sepL_yes _ ht]
   have := sepL_len (mark := mark) (rd := rd) n (rd (takeP E mark s).2).2
   simp; exact this
theorem sepP_len {α : Type} {mark : Bs} {rd : P α} (hrd : Dec rd) (s : St) : (sepP E mark rd s).1.length ≤ s.r.length + 1 := by
 have h1 := sepL_len (E := E) (mark := mark) (rd := rd) (rd s).2.r.length (rd s).2
 have h2 := hrd s
 show (_ :: _ : List α).length ≤ _
 rw [List.length_cons]
 omega
theorem Bld.set {B e z n b i : Nat} {v u : Value} {l : List D} (h : Bld w B e z v n l) (hb : b < B) : Bld (w.setCell ⟨b, i, none⟩ u) B e z v n l :=
 h.keep (by simp [World.setCell]) fun k _ hk => Below.heap_setCell _ _ _ _ (by show k ≠ b; omega)
set_option maxRecDepth 20000 in
set_option maxHeartbeats 2000000 in
theorem pchoice_any (hp : Dec p) (HI : ItemsOK g E n p) (h : Prs w g E s) (hn : s.r.length < n) : Calls Tryz.prog 226 #[.pointer (some ⟨g, 0, none⟩)] w (GotL w g E (choiceP E p s).2 (dIt (choiceP E p s).1)) := by
 obtain ⟨s1, hs1⟩ : ∃ s1, (expectP E [97, 116] s).2 = s1 := ⟨_, rfl⟩
 have HS1 := Lib.hid hs1
 obtain ⟨s2, hs2⟩ : ∃ s2, (wordP E s1).2 = s2 := ⟨_, rfl⟩
 have HS2 := Lib.hid hs2
 obtain ⟨fr, hv2⟩ : ∃ fr, (wordP E s1).1 = fr := ⟨_, rfl⟩
 have HV2 := Lib.hid hv2
 obtain ⟨s3, hs3⟩ : ∃ s3, (takeP E [119, 105, 116, 104, 105, 110] s2).2 = s3 := ⟨_, rfl⟩
 have HS3 := Lib.hid hs3
 obtain ⟨s4, hs4⟩ : ∃ s4, (withinP E s2).2 = s4 := ⟨_, rfl⟩
 have HS4 := Lib.hid hs4
 obtain ⟨t, hv4⟩ : ∃ t, (withinP E s2).1 = t := ⟨_, rfl⟩
 have HV4 := Lib.hid hv4
 obtain ⟨s5, hs5⟩ : ∃ s5, (sepP E [111, 114] (blockP E p) s4).2 = s5 := ⟨_, rfl⟩
 have HS5 := Lib.hid hs5
 obtain ⟨bs, hv5⟩ : ∃ bs, (sepP E [111, 114] (blockP E p) s4).1 = bs := ⟨_, rfl⟩
 have HV5 := Lib.hid hv5
 obtain ⟨s6, hs6⟩ : ∃ s6, (elseP E p t bs s5).2 = s6 := ⟨_, rfl⟩
 have HS6 := Lib.hid hs6
 obtain ⟨cs, hv6⟩ : ∃ cs, (elseP E p t bs s5).1 = cs := ⟨_, rfl⟩
 have HV6 := Lib.hid hv6
 have HR := Lib.hid (show choiceP E p s = (It.mk 2 fr [] [] [] t cs, s6) by subst hs1; subst hs2; subst hv2; subst hs4; subst hv4; subst hs5; subst hv5; subst hs6; subst hv6; rfl)
 rw [HR.out]
 have hmf := makeFunc_run
 have hn2 : s2.r.length < n := by rw [← hs2, ← hs1]; exact Nat.lt_of_le_of_lt (wordP_dec _) (Nat.lt_of_le_of_lt (expectP_dec _ _) hn)
 have hn4 : s4.r.length < n := by rw [← hs4]; exact Nat.lt_of_le_of_lt (withinP_dec _) hn2
 have hn5 : s5.r.length < n := by rw [← hs5]; exact Nat.lt_of_le_of_lt (sepP_dec (blockP_dec hp) _) hn4
 have HN4 := Lib.hid hn4
 have HN5 := Lib.hid hn5
 have HI2 := Lib.hid HI
 have HPD := Lib.hid hp
 have hs4l := h.small.len
 have h42 : s4.r.length ≤ s.r.length := by rw [← hs4, ← hs2, ← hs1]; exact Nat.le_trans (withinP_dec _) (Nat.le_trans (wordP_dec _) (expectP_dec _ _))
 have hlb := sepP_len (E := E) (mark := [111, 114]) (rd := blockP E p) (blockP_dec hp) s4
 rw [hv5] at hlb
 have HLB := Lib.hid (show bs.length ≤ 8001 by omega)
 clear h42 hlb
 clear hs4l
 have H := Lib.hid h
 have hlt := h.lt
 have HO := Lib.hid (Only.refl g w)
 cases hb : (takeP E [119, 105, 116, 104, 105, 110] s2).1 with
 | false =>
  have e0 : (withinP E s2).1 = 0 := by unfold withinP; rw [show (takeP E [119, 105, 116, 104, 105, 110] >>= fun w => if w = true then ticksP E else pure 0) s2 = (pure 0 : P Int) (takeP E [119, 105, 116, 104, 105, 110] s2).2 from take_no hb]; rfl
  have ht0 : ¬ 0 < t := by rw [hv4] at e0; omega
  clear e0
  have HB := Lib.hid hb
  have HW := Lib.hid (show withinP E s2 = (0, s3) by unfold withinP; refine (take_no hb).trans ?_; rw [hs3]; rfl)
  rw [HW.out] at HS4 HV4
  have HL := Lib.hid (show elseP E p t bs s5 = (bs, s5) by unfold elseP; rw [if_neg ht0]; rfl)
  rw [HL.out] at HS6 HV6
  clear h hb hs1 hs2 hv2 hs3 hs4 hv4 hs5 hv5 hs6 hv6 hn hn2 hn4 hn5 HI hp
  go_enter Tryz.func226, Tryz.ntmps226
  have P1' : Hid (Prs ((w).alloc oSynJ0) g E _) := H.out.alloc _
  have O1' : Hid (Only g w ((w).alloc oSynJ0)) := HO.out.alloc _
  have Br_1 : Hid (Bx ((w).alloc oSynJ0) (w.heap.size) 70 #[.int .i64 0, .string ⟨#[]⟩, .slice none 0 0, .string ⟨#[]⟩, .string ⟨#[]⟩, .int .i64 0, .slice none 0 0]) := Bx.new2 (rfl)
  have P2' : Hid (Prs (((w).alloc oSynJ0).alloc oSynJ1) g E _) := P1'.out.alloc _
  have O2' : Hid (Only g w (((w).alloc oSynJ0).alloc oSynJ1)) := O1'.out.alloc _
  have Br_2 : Hid (Bx (((w).alloc oSynJ0).alloc oSynJ1) (w.heap.size) _ _) := Br_1.out.alloc _
  have Bx_2 : Hid (Bx (((w).alloc oSynJ0).alloc oSynJ1) (w.heap.size + 1) 70 #[.int .i64 2, .string ⟨#[]⟩, .slice none 0 0, .string ⟨#[]⟩, .string ⟨#[]⟩, .int .i64 0, .slice none 0 0]) := Bx.new2 (by simp only [size_alloc])
  go_wp2_with fail
  refine (pexpect_any P2'.out [97, 116]).mono ?_; rintro e w3 ⟨rfl, P3, O3⟩
  rw [HS1.out] at P3
  have P3' := Lib.hid P3
  have O3' := Lib.hid (O2'.out.trans O3)
  have Br_3 := Lib.hid (Br_2.out.only O3 (by omega))
  have Bx_3 := Lib.hid (Bx_2.out.only O3 (by omega))
  have hz3 : w.heap.size + 2 ≤ w3.heap.size := by have := O3.size; simp only [size_alloc] at this; exact this
  clear P3 O3
  obtain ⟨cr_0, cr_1, cr_2, cr_3, cr_4, cr_5, cr_6⟩ := Br_3.out.k7
  obtain ⟨fr_0, fr_1, fr_2, fr_3, fr_4, fr_5, fr_6⟩ := Br_3.out.f7
  obtain ⟨cx_0, cx_1, cx_2, cx_3, cx_4, cx_5, cx_6⟩ := Bx_3.out.k7
  obtain ⟨fx_0, fx_1, fx_2, fx_3, fx_4, fx_5, fx_6⟩ := Bx_3.out.f7
  go_wp2_with fail
  refine (pword_any P3'.out).mono ?_; rintro e w4 ⟨rfl, P4, O4⟩
  rw [HS2.out] at P4
  rw [HV2.out]
  have P4' := Lib.hid P4
  have O4' := Lib.hid (O3'.out.trans O4)
  have Br_4 := Lib.hid (Br_3.out.only O4 (by omega))
  have Bx_4 := Lib.hid (Bx_3.out.only O4 (by omega))
  have hz4 : w3.heap.size ≤ w4.heap.size := O4.size
  clear P4 O4
  clear cr_0 fr_0 cr_1 fr_1 cr_2 fr_2 cr_3 fr_3 cr_4 fr_4 cr_5 fr_5 cr_6 fr_6 cx_0 fx_0 cx_1 fx_1 cx_2 fx_2 cx_3 fx_3 cx_4 fx_4 cx_5 fx_5 cx_6 fx_6
  obtain ⟨cr_0, cr_1, cr_2, cr_3, cr_4, cr_5, cr_6⟩ := Br_4.out.k7
  obtain ⟨fr_0, fr_1, fr_2, fr_3, fr_4, fr_5, fr_6⟩ := Br_4.out.f7
  obtain ⟨cx_0, cx_1, cx_2, cx_3, cx_4, cx_5, cx_6⟩ := Bx_4.out.k7
  obtain ⟨fx_0, fx_1, fx_2, fx_3, fx_4, fx_5, fx_6⟩ := Bx_4.out.f7
  have P5' := Lib.hid (P4'.out.own (b := w.heap.size + 1) (by omega) 1 (.string (ofL fr)))
  have O5' := Lib.hid (O4'.out.own (b := w.heap.size + 1) (by omega) 1 (.string (ofL fr)))
  have Br_5 := Lib.hid (Br_4.out.other (c := w.heap.size + 1) (i := 1) (u := .string (ofL fr)) (by omega))
  have Bx_5 : Hid (Bx _ _ _ #[.int .i64 2, .string (ofL fr), .slice none 0 0, .string ⟨#[]⟩, .string ⟨#[]⟩, .int .i64 0, .slice none 0 0]) := Bx_4.out.set 1 (.string (ofL fr))
  go_wp2_with fail
  refine (ptake_any P5'.out [119, 105, 116, 104, 105, 110]).mono ?_; rintro e w6 ⟨rfl, P6, O6⟩
  rw [HS3.out] at P6
  rw [HB.out]
  have P6' := Lib.hid P6
  have O6' := Lib.hid (O5'.out.trans O6)
  have Br_6 := Lib.hid (Br_5.out.only O6 (by omega))
  have Bx_6 := Lib.hid (Bx_5.out.only O6 (by omega))
  have hz6 : w4.heap.size ≤ w6.heap.size := by have := O6.size; simp only [size_set] at this; exact this
  clear P6 O6
  clear cr_0 fr_0 cr_1 fr_1 cr_2 fr_2 cr_3 fr_3 cr_4 fr_4 cr_5 fr_5 cr_6 fr_6 cx_0 fx_0 cx_1 fx_1 cx_2 fx_2 cx_3 fx_3 cx_4 fx_4 cx_5 fx_5 cx_6 fx_6
  obtain ⟨cr_0, cr_1, cr_2, cr_3, cr_4, cr_5, cr_6⟩ := Br_6.out.k7
  obtain ⟨fr_0, fr_1, fr_2, fr_3, fr_4, fr_5, fr_6⟩ := Br_6.out.f7
  obtain ⟨cx_0, cx_1, cx_2, cx_3, cx_4, cx_5, cx_6⟩ := Bx_6.out.k7
  obtain ⟨fx_0, fx_1, fx_2, fx_3, fx_4, fx_5, fx_6⟩ := Bx_6.out.f7
  go_wp2_with fail
  have h34 : s3 = s4 := HS4.out
  have ht : 0 = t := HV4.out
  subst ht
  have HPx := P6'.out
  rw [h34] at HPx
  have PX := Lib.hid HPx
  clear HPx h34
  refine (sepBlock_any _ (blockP_dec HPD.out) (block_rd HI2.out s4.r.length HN4.out) [111, 114] PX.out (Nat.le_refl _) PX.out.small.len).mono ?_; rintro e w7 ⟨v, rfl, BV, P7, O7⟩
  obtain ⟨ABS, nBS, cBS, rfl, -⟩ := BV.lies.slc
  rw [HV5.out] at BV
  rw [HS5.out] at P7
  have DBS_7 := Lib.hid (show Bld w7 (w6.heap.size) 57 1 (.slice ABS nBS cBS) (bs.length) ((bs.flatMap fun x => [dB x])) from BV)
  have P7' := Lib.hid P7
  have O7' := Lib.hid (O6'.out.trans O7)
  have Br_7 := Lib.hid (Br_6.out.only O7 (by omega))
  have Bx_7 := Lib.hid (Bx_6.out.only O7 (by omega))
  have hz7 : w6.heap.size ≤ w7.heap.size := O7.size
  clear P7 O7 BV
  clear cr_0 fr_0 cr_1 fr_1 cr_2 fr_2 cr_3 fr_3 cr_4 fr_4 cr_5 fr_5 cr_6 fr_6 cx_0 fx_0 cx_1 fx_1 cx_2 fx_2 cx_3 fx_3 cx_4 fx_4 cx_5 fx_5 cx_6 fx_6
  obtain ⟨cr_0, cr_1, cr_2, cr_3, cr_4, cr_5, cr_6⟩ := Br_7.out.k7
  obtain ⟨fr_0, fr_1, fr_2, fr_3, fr_4, fr_5, fr_6⟩ := Br_7.out.f7
  obtain ⟨cx_0, cx_1, cx_2, cx_3, cx_4, cx_5, cx_6⟩ := Bx_7.out.k7
  obtain ⟨fx_0, fx_1, fx_2, fx_3, fx_4, fx_5, fx_6⟩ := Bx_7.out.f7
  have P8' := Lib.hid (P7'.out.own (b := w.heap.size + 1) (by omega) 6 (.slice ABS nBS cBS))
  have O8' := Lib.hid (O7'.out.own (b := w.heap.size + 1) (by omega) 6 (.slice ABS nBS cBS))
  have Br_8 := Lib.hid (Br_7.out.other (c := w.heap.size + 1) (i := 6) (u := .slice ABS nBS cBS) (by omega))
  have Bx_8 : Hid (Bx _ _ _ #[.int .i64 2, .string (ofL fr), .slice none 0 0, .string ⟨#[]⟩, .string ⟨#[]⟩, .int .i64 0, .slice ABS nBS cBS]) := Bx_7.out.set 6 (.slice ABS nBS cBS)
  have DBS_8 := Lib.hid (DBS_7.out.set (b := w.heap.size + 1) (i := 6) (u := .slice ABS nBS cBS) (by omega))
  go_wp2_with fail
  have h56 : s5 = s6 := HS6.out
  have hcs : bs = cs := HV6.out
  subst h56
  subst hcs
  have LC := Lib.hid (show Lies ((w7).setCell ⟨w.heap.size + 1, 6, none⟩ (.slice ABS nBS cBS)) (fun k => w6.heap.size ≤ k) (.slice ABS nBS cBS) (.s 1 (dBl bs)) by rw [dBl_map]; exact DBS_8.out.lies)
  have P9' := Lib.hid (P8'.out.own (b := w.heap.size) (by omega) 0 (.int .i64 2))
  have O9' := Lib.hid (O8'.out.own (b := w.heap.size) (by omega) 0 (.int .i64 2))
  have Br_9 : Hid (Bx _ _ _ #[.int .i64 2, .string ⟨#[]⟩, .slice none 0 0, .string ⟨#[]⟩, .string ⟨#[]⟩, .int .i64 0, .slice none 0 0]) := Br_8.out.set 0 (.int .i64 2)
  have Bx_9 := Lib.hid (Bx_8.out.other (c := w.heap.size) (i := 0) (u := .int .i64 2) (by omega))
  have LC_9 := Lib.hid (LC.out.set (b := w.heap.size) (i := 0) (u := .int .i64 2) (by omega))
  have P10' := Lib.hid (P9'.out.own (b := w.heap.size) (by omega) 1 (.string (ofL fr)))
  have O10' := Lib.hid (O9'.out.own (b := w.heap.size) (by omega) 1 (.string (ofL fr)))
  have Br_10 : Hid (Bx _ _ _ #[.int .i64 2, .string (ofL fr), .slice none 0 0, .string ⟨#[]⟩, .string ⟨#[]⟩, .int .i64 0, .slice none 0 0]) := Br_9.out.set 1 (.string (ofL fr))
  have Bx_10 := Lib.hid (Bx_9.out.other (c := w.heap.size) (i := 1) (u := .string (ofL fr)) (by omega))
  have LC_10 := Lib.hid (LC_9.out.set (b := w.heap.size) (i := 1) (u := .string (ofL fr)) (by omega))
  have P11' := Lib.hid (P10'.out.own (b := w.heap.size) (by omega) 2 (.slice none 0 0))
  have O11' := Lib.hid (O10'.out.own (b := w.heap.size) (by omega) 2 (.slice none 0 0))
  have Br_11 : Hid (Bx _ _ _ #[.int .i64 2, .string (ofL fr), .slice none 0 0, .string ⟨#[]⟩, .string ⟨#[]⟩, .int .i64 0, .slice none 0 0]) := Br_10.out.set 2 (.slice none 0 0)
  have Bx_11 := Lib.hid (Bx_10.out.other (c := w.heap.size) (i := 2) (u := .slice none 0 0) (by omega))
  have LC_11 := Lib.hid (LC_10.out.set (b := w.heap.size) (i := 2) (u := .slice none 0 0) (by omega))
  have P12' := Lib.hid (P11'.out.own (b := w.heap.size) (by omega) 3 (.string ⟨#[]⟩))
  have O12' := Lib.hid (O11'.out.own (b := w.heap.size) (by omega) 3 (.string ⟨#[]⟩))
  have Br_12 : Hid (Bx _ _ _ #[.int .i64 2, .string (ofL fr), .slice none 0 0, .string ⟨#[]⟩, .string ⟨#[]⟩, .int .i64 0, .slice none 0 0]) := Br_11.out.set 3 (.string ⟨#[]⟩)
  have Bx_12 := Lib.hid (Bx_11.out.other (c := w.heap.size) (i := 3) (u := .string ⟨#[]⟩) (by omega))
  have LC_12 := Lib.hid (LC_11.out.set (b := w.heap.size) (i := 3) (u := .string ⟨#[]⟩) (by omega))
  have P13' := Lib.hid (P12'.out.own (b := w.heap.size) (by omega) 4 (.string ⟨#[]⟩))
  have O13' := Lib.hid (O12'.out.own (b := w.heap.size) (by omega) 4 (.string ⟨#[]⟩))
  have Br_13 : Hid (Bx _ _ _ #[.int .i64 2, .string (ofL fr), .slice none 0 0, .string ⟨#[]⟩, .string ⟨#[]⟩, .int .i64 0, .slice none 0 0]) := Br_12.out.set 4 (.string ⟨#[]⟩)
  have Bx_13 := Lib.hid (Bx_12.out.other (c := w.heap.size) (i := 4) (u := .string ⟨#[]⟩) (by omega))
  have LC_13 := Lib.hid (LC_12.out.set (b := w.heap.size) (i := 4) (u := .string ⟨#[]⟩) (by omega))
  have P14' := Lib.hid (P13'.out.own (b := w.heap.size) (by omega) 5 (.int .i64 0))
  have O14' := Lib.hid (O13'.out.own (b := w.heap.size) (by omega) 5 (.int .i64 0))
  have Br_14 : Hid (Bx _ _ _ #[.int .i64 2, .string (ofL fr), .slice none 0 0, .string ⟨#[]⟩, .string ⟨#[]⟩, .int .i64 0, .slice none 0 0]) := Br_13.out.set 5 (.int .i64 0)
  have Bx_14 := Lib.hid (Bx_13.out.other (c := w.heap.size) (i := 5) (u := .int .i64 0) (by omega))
  have LC_14 := Lib.hid (LC_13.out.set (b := w.heap.size) (i := 5) (u := .int .i64 0) (by omega))
  have P15' := Lib.hid (P14'.out.own (b := w.heap.size) (by omega) 6 (.slice ABS nBS cBS))
  have O15' := Lib.hid (O14'.out.own (b := w.heap.size) (by omega) 6 (.slice ABS nBS cBS))
  have Br_15 : Hid (Bx _ _ _ #[.int .i64 2, .string (ofL fr), .slice none 0 0, .string ⟨#[]⟩, .string ⟨#[]⟩, .int .i64 0, .slice ABS nBS cBS]) := Br_14.out.set 6 (.slice ABS nBS cBS)
  have Bx_15 := Lib.hid (Bx_14.out.other (c := w.heap.size) (i := 6) (u := .slice ABS nBS cBS) (by omega))
  have LC_15 := Lib.hid (LC_14.out.set (b := w.heap.size) (i := 6) (u := .slice ABS nBS cBS) (by omega))
  refine bodyPost_ret (v := .agg #[.int .i64 2, .string (ofL fr), .slice none 0 0, .string ⟨#[]⟩, .string ⟨#[]⟩, .int .i64 0, .slice ABS nBS cBS]) (bx_ret Br_15.out Tryz.results226 _ rfl Tryz.underlying70 rfl (by kernel_rfl)) rfl ?_
  exact ⟨_, rfl, (LiesL.cons (.c _ rfl) (LiesL.cons (.c _ rfl) (LiesL.cons (.nil _) (LiesL.cons (.c _ rfl) (LiesL.cons (.c _ rfl) (LiesL.cons (.c _ rfl) (LiesL.cons (LC_15.out.from (by omega)) (LiesL.nil _ _)))))))), P15'.out, O15'.out⟩
 | true =>
  by_cases ht0 : 0 < t
  ·skip
   have HB := Lib.hid hb
   have HW := Lib.hid (show withinP E s2 = ticksP E s3 by unfold withinP; refine (take_yes hb).trans ?_; rw [hs3])
   rw [HW.out] at HS4 HV4
   have HT0 := Lib.hid ht0
   obtain ⟨s7, hs7⟩ : ∃ s7, (expectP E [101, 108, 115, 101] s5).2 = s7 := ⟨_, rfl⟩
   have HS7 := Lib.hid hs7
   obtain ⟨s8, hs8⟩ : ∃ s8, (blockP E p s7).2 = s8 := ⟨_, rfl⟩
   have HS8 := Lib.hid hs8
   obtain ⟨b, hv8⟩ : ∃ b, (blockP E p s7).1 = b := ⟨_, rfl⟩
   have HV8 := Lib.hid hv8
   have HL := Lib.hid (show elseP E p t bs s5 = (bs ++ [b], s8) by unfold elseP; rw [if_pos ht0]; subst hs7; subst hs8; subst hv8; rfl)
   have HN7 := Lib.hid (show s7.r.length < n by rw [← hs7]; exact Nat.lt_of_le_of_lt (expectP_dec _ _) hn5)
   rw [HL.out] at HS6 HV6
   clear h hb hs1 hs2 hv2 hs3 hs4 hv4 hs5 hv5 hs6 hv6 hn hn2 hn4 hn5 HI hp hs7 hs8 hv8
   go_enter Tryz.func226, Tryz.ntmps226
   have P1' : Hid (Prs ((w).alloc oSynJ0) g E _) := H.out.alloc _
   have O1' : Hid (Only g w ((w).alloc oSynJ0)) := HO.out.alloc _
   have Br_1 : Hid (Bx ((w).alloc oSynJ0) (w.heap.size) 70 #[.int .i64 0, .string ⟨#[]⟩, .slice none 0 0, .string ⟨#[]⟩, .string ⟨#[]⟩, .int .i64 0, .slice none 0 0]) := Bx.new2 (rfl)
   have P2' : Hid (Prs (((w).alloc oSynJ0).alloc oSynJ1) g E _) := P1'.out.alloc _
   have O2' : Hid (Only g w (((w).alloc oSynJ0).alloc oSynJ1)) := O1'.out.alloc _
   have Br_2 : Hid (Bx (((w).alloc oSynJ0).alloc oSynJ1) (w.heap.size) _ _) := Br_1.out.alloc _
   have Bx_2 : Hid (Bx (((w).alloc oSynJ0).alloc oSynJ1) (w.heap.size + 1) 70 #[.int .i64 2, .string ⟨#[]⟩, .slice none 0 0, .string ⟨#[]⟩, .string ⟨#[]⟩, .int .i64 0, .slice none 0 0]) := Bx.new2 (by simp only [size_alloc])
   go_wp2_with fail
   refine (pexpect_any P2'.out [97, 116]).mono ?_; rintro e w3 ⟨rfl, P3, O3⟩
   rw [HS1.out] at P3
   have P3' := Lib.hid P3
   have O3' := Lib.hid (O2'.out.trans O3)
   have Br_3 := Lib.hid (Br_2.out.only O3 (by omega))
   have Bx_3 := Lib.hid (Bx_2.out.only O3 (by omega))
   have hz3 : w.heap.size + 2 ≤ w3.heap.size := by have := O3.size; simp only [size_alloc] at this; exact this
   clear P3 O3
   obtain ⟨cr_0, cr_1, cr_2, cr_3, cr_4, cr_5, cr_6⟩ := Br_3.out.k7
   obtain ⟨fr_0, fr_1, fr_2, fr_3, fr_4, fr_5, fr_6⟩ := Br_3.out.f7
   obtain ⟨cx_0, cx_1, cx_2, cx_3, cx_4, cx_5, cx_6⟩ := Bx_3.out.k7
   obtain ⟨fx_0, fx_1, fx_2, fx_3, fx_4, fx_5, fx_6⟩ := Bx_3.out.f7
   go_wp2_with fail
   refine (pword_any P3'.out).mono ?_; rintro e w4 ⟨rfl, P4, O4⟩
   rw [HS2.out] at P4
   rw [HV2.out]
   have P4' := Lib.hid P4
   have O4' := Lib.hid (O3'.out.trans O4)
   have Br_4 := Lib.hid (Br_3.out.only O4 (by omega))
   have Bx_4 := Lib.hid (Bx_3.out.only O4 (by omega))
   have hz4 : w3.heap.size ≤ w4.heap.size := O4.size
   clear P4 O4
   clear cr_0 fr_0 cr_1 fr_1 cr_2 fr_2 cr_3 fr_3 cr_4 fr_4 cr_5 fr_5 cr_6 fr_6 cx_0 fx_0 cx_1 fx_1 cx_2 fx_2 cx_3 fx_3 cx_4 fx_4 cx_5 fx_5 cx_6 fx_6
   obtain ⟨cr_0, cr_1, cr_2, cr_3, cr_4, cr_5, cr_6⟩ := Br_4.out.k7
   obtain ⟨fr_0, fr_1, fr_2, fr_3, fr_4, fr_5, fr_6⟩ := Br_4.out.f7
   obtain ⟨cx_0, cx_1, cx_2, cx_3, cx_4, cx_5, cx_6⟩ := Bx_4.out.k7
   obtain ⟨fx_0, fx_1, fx_2, fx_3, fx_4, fx_5, fx_6⟩ := Bx_4.out.f7
   have P5' := Lib.hid (P4'.out.own (b := w.heap.size + 1) (by omega) 1 (.string (ofL fr)))
   have O5' := Lib.hid (O4'.out.own (b := w.heap.size + 1) (by omega) 1 (.string (ofL fr)))
   have Br_5 := Lib.hid (Br_4.out.other (c := w.heap.size + 1) (i := 1) (u := .string (ofL fr)) (by omega))
   have Bx_5 : Hid (Bx _ _ _ #[.int .i64 2, .string (ofL fr), .slice none 0 0, .string ⟨#[]⟩, .string ⟨#[]⟩, .int .i64 0, .slice none 0 0]) := Bx_4.out.set 1 (.string (ofL fr))
   go_wp2_with fail
   refine (ptake_any P5'.out [119, 105, 116, 104, 105, 110]).mono ?_; rintro e w6 ⟨rfl, P6, O6⟩
   rw [HS3.out] at P6
   rw [HB.out]
   have P6' := Lib.hid P6
   have O6' := Lib.hid (O5'.out.trans O6)
   have Br_6 := Lib.hid (Br_5.out.only O6 (by omega))
   have Bx_6 := Lib.hid (Bx_5.out.only O6 (by omega))
   have hz6 : w4.heap.size ≤ w6.heap.size := by have := O6.size; simp only [size_set] at this; exact this
   clear P6 O6
   clear cr_0 fr_0 cr_1 fr_1 cr_2 fr_2 cr_3 fr_3 cr_4 fr_4 cr_5 fr_5 cr_6 fr_6 cx_0 fx_0 cx_1 fx_1 cx_2 fx_2 cx_3 fx_3 cx_4 fx_4 cx_5 fx_5 cx_6 fx_6
   obtain ⟨cr_0, cr_1, cr_2, cr_3, cr_4, cr_5, cr_6⟩ := Br_6.out.k7
   obtain ⟨fr_0, fr_1, fr_2, fr_3, fr_4, fr_5, fr_6⟩ := Br_6.out.f7
   obtain ⟨cx_0, cx_1, cx_2, cx_3, cx_4, cx_5, cx_6⟩ := Bx_6.out.k7
   obtain ⟨fx_0, fx_1, fx_2, fx_3, fx_4, fx_5, fx_6⟩ := Bx_6.out.f7
   go_wp2_with fail
   refine (pticks_any P6'.out).mono ?_; rintro e w7 ⟨rfl, P7, O7⟩
   rw [HS4.out] at P7
   rw [HV4.out]
   have P7' := Lib.hid P7
   have O7' := Lib.hid (O6'.out.trans O7)
   have Br_7 := Lib.hid (Br_6.out.only O7 (by omega))
   have Bx_7 := Lib.hid (Bx_6.out.only O7 (by omega))
   have hz7 : w6.heap.size ≤ w7.heap.size := O7.size
   clear P7 O7
   clear cr_0 fr_0 cr_1 fr_1 cr_2 fr_2 cr_3 fr_3 cr_4 fr_4 cr_5 fr_5 cr_6 fr_6 cx_0 fx_0 cx_1 fx_1 cx_2 fx_2 cx_3 fx_3 cx_4 fx_4 cx_5 fx_5 cx_6 fx_6
   obtain ⟨cr_0, cr_1, cr_2, cr_3, cr_4, cr_5, cr_6⟩ := Br_7.out.k7
   obtain ⟨fr_0, fr_1, fr_2, fr_3, fr_4, fr_5, fr_6⟩ := Br_7.out.f7
   obtain ⟨cx_0, cx_1, cx_2, cx_3, cx_4, cx_5, cx_6⟩ := Bx_7.out.k7
   obtain ⟨fx_0, fx_1, fx_2, fx_3, fx_4, fx_5, fx_6⟩ := Bx_7.out.f7
   have P8' := Lib.hid (P7'.out.own (b := w.heap.size + 1) (by omega) 5 (.int .i64 t))
   have O8' := Lib.hid (O7'.out.own (b := w.heap.size + 1) (by omega) 5 (.int .i64 t))
   have Br_8 := Lib.hid (Br_7.out.other (c := w.heap.size + 1) (i := 5) (u := .int .i64 t) (by omega))
   have Bx_8 : Hid (Bx _ _ _ #[.int .i64 2, .string (ofL fr), .slice none 0 0, .string ⟨#[]⟩, .string ⟨#[]⟩, .int .i64 t, .slice none 0 0]) := Bx_7.out.set 5 (.int .i64 t)
   go_wp2_with fail
   refine (sepBlock_any _ (blockP_dec HPD.out) (block_rd HI2.out s4.r.length HN4.out) [111, 114] P8'.out (Nat.le_refl _) P8'.out.small.len).mono ?_; rintro e w9 ⟨v, rfl, BV, P9, O9⟩
   obtain ⟨ABS, nBS, cBS, rfl, -⟩ := BV.lies.slc
   rw [HV5.out] at BV
   rw [HS5.out] at P9
   have DBS_9 := Lib.hid (show Bld w9 (w7.heap.size) 57 1 (.slice ABS nBS cBS) (bs.length) ((bs.flatMap fun x => [dB x])) from by have := BV; simp only [size_set] at this; exact this)
   have P9' := Lib.hid P9
   have O9' := Lib.hid (O8'.out.trans O9)
   have Br_9 := Lib.hid (Br_8.out.only O9 (by omega))
   have Bx_9 := Lib.hid (Bx_8.out.only O9 (by omega))
   have hz9 : w7.heap.size ≤ w9.heap.size := by have := O9.size; simp only [size_set] at this; exact this
   clear P9 O9 BV
   clear cr_0 fr_0 cr_1 fr_1 cr_2 fr_2 cr_3 fr_3 cr_4 fr_4 cr_5 fr_5 cr_6 fr_6 cx_0 fx_0 cx_1 fx_1 cx_2 fx_2 cx_3 fx_3 cx_4 fx_4 cx_5 fx_5 cx_6 fx_6
   obtain ⟨cr_0, cr_1, cr_2, cr_3, cr_4, cr_5, cr_6⟩ := Br_9.out.k7
   obtain ⟨fr_0, fr_1, fr_2, fr_3, fr_4, fr_5, fr_6⟩ := Br_9.out.f7
   obtain ⟨cx_0, cx_1, cx_2, cx_3, cx_4, cx_5, cx_6⟩ := Bx_9.out.k7
   obtain ⟨fx_0, fx_1, fx_2, fx_3, fx_4, fx_5, fx_6⟩ := Bx_9.out.f7
   have P10' := Lib.hid (P9'.out.own (b := w.heap.size + 1) (by omega) 6 (.slice ABS nBS cBS))
   have O10' := Lib.hid (O9'.out.own (b := w.heap.size + 1) (by omega) 6 (.slice ABS nBS cBS))
   have Br_10 := Lib.hid (Br_9.out.other (c := w.heap.size + 1) (i := 6) (u := .slice ABS nBS cBS) (by omega))
   have Bx_10 : Hid (Bx _ _ _ #[.int .i64 2, .string (ofL fr), .slice none 0 0, .string ⟨#[]⟩, .string ⟨#[]⟩, .int .i64 t, .slice ABS nBS cBS]) := Bx_9.out.set 6 (.slice ABS nBS cBS)
   have DBS_10 := Lib.hid (DBS_9.out.set (b := w.heap.size + 1) (i := 6) (u := .slice ABS nBS cBS) (by omega))
   go_wp2_with fail
   refine (pexpect_any P10'.out [101, 108, 115, 101]).mono ?_; rintro e w11 ⟨rfl, P11, O11⟩
   rw [HS7.out] at P11
   have P11' := Lib.hid P11
   have O11' := Lib.hid (O10'.out.trans O11)
   have Br_11 := Lib.hid (Br_10.out.only O11 (by omega))
   have Bx_11 := Lib.hid (Bx_10.out.only O11 (by omega))
   have DBS_11 := Lib.hid (DBS_10.out.only O11 (by omega))
   have hz11 : w9.heap.size ≤ w11.heap.size := by have := O11.size; simp only [size_set] at this; exact this
   clear P11 O11
   clear cr_0 fr_0 cr_1 fr_1 cr_2 fr_2 cr_3 fr_3 cr_4 fr_4 cr_5 fr_5 cr_6 fr_6 cx_0 fx_0 cx_1 fx_1 cx_2 fx_2 cx_3 fx_3 cx_4 fx_4 cx_5 fx_5 cx_6 fx_6
   obtain ⟨cr_0, cr_1, cr_2, cr_3, cr_4, cr_5, cr_6⟩ := Br_11.out.k7
   obtain ⟨fr_0, fr_1, fr_2, fr_3, fr_4, fr_5, fr_6⟩ := Br_11.out.f7
   obtain ⟨cx_0, cx_1, cx_2, cx_3, cx_4, cx_5, cx_6⟩ := Bx_11.out.k7
   obtain ⟨fx_0, fx_1, fx_2, fx_3, fx_4, fx_5, fx_6⟩ := Bx_11.out.f7
   go_wp2_with fail
   have hN8 := Lib.hid (show (bs.length + 1) * 24 ≤ 140737488355328 by have := HLB.out; omega)
   have hzB : w.heap.size ≤ w7.heap.size := by omega
   clear cr_0 fr_0 cr_1 fr_1 cr_2 fr_2 cr_3 fr_3 cr_4 fr_4 cr_5 fr_5 cr_6 fr_6 cx_0 fx_0 cx_1 fx_1 cx_2 fx_2 cx_3 fx_3 cx_4 fx_4 cx_5 fx_5 cx_6 fx_6
   have XP := P11'.out
   have XO := O11'.out
   have XX := Bx_11.out
   have XR := Br_11.out
   have XD := DBS_11.out
   have hsz : w11.heap.size ≤ w11.heap.size := Nat.le_refl _
   have HST := Lib.hid (fun vs => PuI.start (vs := vs) (k := 6) (s1 := s8) (ds := [dB b]) (V := (fun (v : Value) (cs : Array Value) => ∃ A n c, v = .slice A n c ∧ cs = #[.slice A n c])) XO XR XX XP XD (by omega) ((.nil 1) : Lies _ (fun _ => False) (.slice none 0 0) (.s 1 [])))
   clear XP XO XX XR XD
   refine region_inv (n := 33) (PuI w g E s7 s8 (w.heap.size) (w.heap.size + 1) 70 #[.int .i64 0, .string ⟨#[]⟩, .slice none 0 0, .string ⟨#[]⟩, .string ⟨#[]⟩, .int .i64 0, .slice none 0 0] #[.int .i64 2, .string (ofL fr), .slice none 0 0, .string ⟨#[]⟩, .string ⟨#[]⟩, .int .i64 t, .slice ABS nBS cBS] 6 (.slice ABS nBS cBS) (w7.heap.size) 57 1 (bs.length) (bs.flatMap fun x => [dB x]) [dB b] (fun (v : Value) (cs : Array Value) => ∃ A n c, v = .slice A n c ∧ cs = #[.slice A n c]) (fun _ => False) (.slice none 0 0) (.s 1 [])) (by kernel_rfl) (by kernel_rfl) rfl ?_ (allOps_spec ?_) ?_
   ·intro vs
    exact HST.out vs
   ·clear HST
    refine ⟨?_, ?_, ?_, ?_, ?_, ?_, ?_, ?_, trivial⟩
    ·intro L vs a w2 hB hL hd hI
     have b3 : a.tmps[3]?.getD undef = .pointer (some ⟨w.heap.size + 1, 0, none⟩) := hB.at 3 (by kernel_rfl)
     exact stepI_run (v := .pointer (some ⟨w.heap.size + 1, 6, none⟩)) rfl (by simp [execOp, go_sem, Act.eval, b3]) hI.t0
    ·intro L vs a w2 hB hL hd hI
     have b0 : a.tmps[25]?.getD undef = .pointer (some ⟨w.heap.size + 1, 6, none⟩) := (hB.val 0 (hd ⟨0, .data⟩ (by simp) rfl) 25 rfl).trans (hI.p0 (hd ⟨0, .data⟩ (by simp) rfl))
     have h7 : L 7 = false := hB.wait 5 7 (hB.wait 1 5 hL (by kernel_rfl)) (by kernel_rfl)
     have hx := hI.bX
     rw [h7, if_neg Bool.false_ne_true] at hx
     have c6 : w2.cell? ⟨w.heap.size + 1, 6, none⟩ = some (.slice ABS nBS cBS) := hx.cell 6
     exact stepI_run (v := .slice ABS nBS cBS) rfl (by simp [execOp, go_sem, Act.eval, b0, c6]) hI.t1
    ·intro L vs a w2 hB hL hd hI
     have bp : a.tmps[0]?.getD undef = .pointer (some ⟨g, 0, none⟩) := hB.at 0 (by kernel_rfl)
     exact stepI_run (v := .pointer (some ⟨g, 0, none⟩)) rfl (by simp [execOp, go_sem, Act.eval, bp]) hI.t2
    ·intro L vs a w2 hB hL hd hI
     have b2 : a.tmps[27]?.getD undef = .pointer (some ⟨g, 0, none⟩) := (hB.val 2 (hd ⟨2, .data⟩ (by simp) rfl) 27 rfl).trans (hI.p2 (hd ⟨2, .data⟩ (by simp) rfl))
     have h4 : L 4 = false := hB.wait 3 4 hL (by kernel_rfl)
     have h5 : L 5 = false := hB.wait 4 5 h4 (by kernel_rfl)
     have h7 : L 7 = false := hB.wait 5 7 h5 (by kernel_rfl)
     have hps := hI.ps
     rw [hL, if_neg Bool.false_ne_true] at hps
     have hws := hI.only.size
     refine stepI_call (f := 248) (args := #[.pointer (some ⟨g, 0, none⟩)]) rfl (by simp [go_sem, b2]) ?_
     refine (pblock_any HI2.out hps HN7.out).mono ?_
     rintro e w3 ⟨v, rfl, LV, P3, O3⟩; rw [HS8.out] at P3; rw [HV8.out] at LV; obtain ⟨A, n0, c0, rfl, -⟩ := LV.slc
     exact ⟨_, rfl, hI.t3 h4 h5 h7 (by omega) (by omega) (by omega) ⟨A, n0, c0, rfl, rfl⟩ rfl (LiesL.cons LV (LiesL.nil _ _)) P3 O3 (by first | exact fun h => h | (intro h; have h1 := h.1; have h2 := h.2; omega))⟩
    ·intro L vs a w2 hB hL hd hI
     have h3 : L 3 = true := hd ⟨3, .data⟩ (by simp) rfl
     have h5 : L 5 = false := hB.wait 4 5 hL (by kernel_rfl)
     have h7 : L 7 = false := hB.wait 5 7 h5 (by kernel_rfl)
     obtain ⟨cs3, hV, hz3, hl3⟩ := hI.val h3 hL
     obtain ⟨A, n0, c0, h3v, rfl⟩ := hV
     have b28 : a.tmps[28]?.getD undef = .slice A n0 c0 := (hB.val 3 h3 28 rfl).trans h3v
     exact stepI_run (v := .slice (some ⟨w2.heap.size, 0, none⟩) 1 1) (w' := w2.alloc (.cells #[.slice A n0 c0] 57)) rfl (by simp [execOp, go_sem, Act.eval, b28]) (hI.t4 h5 h7 rfl hl3)
    ·intro L vs a w2 hB hL hd hI
     have h1 : L 1 = true := hd ⟨1, .data⟩ (by simp) rfl
     have h4 : L 4 = true := hd ⟨4, .data⟩ (by simp) rfl
     have h7 : L 7 = false := hB.wait 5 7 hL (by kernel_rfl)
     have b26 : a.tmps[26]?.getD undef = .slice ABS nBS cBS := (hB.val 1 h1 26 rfl).trans (hI.p1 h1)
     have b29 : a.tmps[29]?.getD undef = vs 4 := hB.val 4 h4 29 rfl
     exact stepI_push hI Tryz.underlying68 info_Block rfl (by decide) rfl rfl b26 b29 h4 hL h7 hN8.out (by decide) (by omega) (by omega) (by omega) (by omega) (fun k hk => by first | exact hk.elim | exact hk.2)
    ·intro L vs a w2 hB hL hd hI
     have b3 : a.tmps[3]?.getD undef = .pointer (some ⟨w.heap.size + 1, 0, none⟩) := hB.at 3 (by kernel_rfl)
     exact stepI_run (v := .pointer (some ⟨w.heap.size + 1, 6, none⟩)) rfl (by simp [execOp, go_sem, Act.eval, b3]) hI.t6
    ·intro L vs a w2 hB hL hd hI
     have h5 : L 5 = true := hd ⟨5, .data⟩ (by simp) rfl
     have h6 : L 6 = true := hd ⟨6, .data⟩ (by simp) rfl
     have h4 : L 4 = true := by cases h : L 4 with | true => rfl | false => exact absurd (hB.wait 4 5 h (by kernel_rfl)) (by simp [h5])
     obtain ⟨hh, cap, h5v, -⟩ := hI.don h5
     have b30 : a.tmps[30]?.getD undef = .slice (some ⟨hh, 0, none⟩) (bs.length + 1) cap := (hB.val 5 h5 30 rfl).trans h5v
     have b31 : a.tmps[31]?.getD undef = .pointer (some ⟨w.heap.size + 1, 6, none⟩) := (hB.val 6 h6 31 rfl).trans (hI.p6 h6)
     have hx := hI.bX
     rw [hL, if_neg Bool.false_ne_true] at hx
     have c6 : w2.cell? ⟨w.heap.size + 1, 6, none⟩ = some (.slice ABS nBS cBS) := hx.cell 6
     have f6 := hx.free 6
     have hfin := hI.t7 h4 h5 hL (by omega) (by omega) (by omega) (by omega) (by first | exact fun h => h | (intro h; have h1 := h.1; have h2 := h.2; omega))
     rw [h5v] at hfin
     exact stepI_skip (w' := w2.setCell ⟨w.heap.size + 1, 6, none⟩ (.slice (some ⟨hh, 0, none⟩) (bs.length + 1) cap)) rfl (by simp [execOp, go_sem, Act.eval, b30, b31, c6, f6]) hfin
   ·intro L vs w2 hall hI
    obtain ⟨OF, RF, PF, hh, cap, h5, XF, DF, KF⟩ := hI.fin (fun i hi => hall i hi)
    rw [h5] at XF DF
    clear hI hall HST
    simp only [putAll, Act.put, List.setIfInBounds_toArray, List.set_cons_zero, List.set_cons_succ, Nat.zero_add, Nat.reduceAdd, h5]
    clear h5
    have XF2 := Lib.hid XF
    have RF2 := Lib.hid RF
    have hzf : w.heap.size + 2 ≤ w2.heap.size := by have := XF.lt; omega
    clear XF RF
    have hcs : bs ++ [b] = cs := HV6.out
    have h86 : s8 = s6 := HS6.out
    rw [h86] at PF
    have PF2 := Lib.hid PF
    have OF2 := Lib.hid OF
    have LC := Lib.hid (show Lies w2 (fun k => w7.heap.size ≤ k) (.slice (some ⟨hh, 0, none⟩) (bs.length + 1) cap) (.s 1 (dBl cs)) by rw [← hcs, dBl_map, List.flatMap_append]; exact DF.lies)
    clear PF OF DF hcs h86
    obtain ⟨cr_0, cr_1, cr_2, cr_3, cr_4, cr_5, cr_6⟩ := RF2.out.k7
    obtain ⟨fr_0, fr_1, fr_2, fr_3, fr_4, fr_5, fr_6⟩ := RF2.out.f7
    obtain ⟨cx_0, cx_1, cx_2, cx_3, cx_4, cx_5, cx_6⟩ := XF2.out.k7
    obtain ⟨fx_0, fx_1, fx_2, fx_3, fx_4, fx_5, fx_6⟩ := XF2.out.f7
    go_wp2_with fail
    have P12' := Lib.hid (PF2.out.own (b := w.heap.size) (by omega) 0 (.int .i64 2))
    have O12' := Lib.hid (OF2.out.own (b := w.heap.size) (by omega) 0 (.int .i64 2))
    have Br_12 : Hid (Bx _ _ _ #[.int .i64 2, .string ⟨#[]⟩, .slice none 0 0, .string ⟨#[]⟩, .string ⟨#[]⟩, .int .i64 0, .slice none 0 0]) := RF2.out.set 0 (.int .i64 2)
    have Bx_12 := Lib.hid (XF2.out.other (c := w.heap.size) (i := 0) (u := .int .i64 2) (by omega))
    have LC_12 := Lib.hid (LC.out.set (b := w.heap.size) (i := 0) (u := .int .i64 2) (by omega))
    have P13' := Lib.hid (P12'.out.own (b := w.heap.size) (by omega) 1 (.string (ofL fr)))
    have O13' := Lib.hid (O12'.out.own (b := w.heap.size) (by omega) 1 (.string (ofL fr)))
    have Br_13 : Hid (Bx _ _ _ #[.int .i64 2, .string (ofL fr), .slice none 0 0, .string ⟨#[]⟩, .string ⟨#[]⟩, .int .i64 0, .slice none 0 0]) := Br_12.out.set 1 (.string (ofL fr))
    have Bx_13 := Lib.hid (Bx_12.out.other (c := w.heap.size) (i := 1) (u := .string (ofL fr)) (by omega))
    have LC_13 := Lib.hid (LC_12.out.set (b := w.heap.size) (i := 1) (u := .string (ofL fr)) (by omega))
    have P14' := Lib.hid (P13'.out.own (b := w.heap.size) (by omega) 2 (.slice none 0 0))
    have O14' := Lib.hid (O13'.out.own (b := w.heap.size) (by omega) 2 (.slice none 0 0))
    have Br_14 : Hid (Bx _ _ _ #[.int .i64 2, .string (ofL fr), .slice none 0 0, .string ⟨#[]⟩, .string ⟨#[]⟩, .int .i64 0, .slice none 0 0]) := Br_13.out.set 2 (.slice none 0 0)
    have Bx_14 := Lib.hid (Bx_13.out.other (c := w.heap.size) (i := 2) (u := .slice none 0 0) (by omega))
    have LC_14 := Lib.hid (LC_13.out.set (b := w.heap.size) (i := 2) (u := .slice none 0 0) (by omega))
    have P15' := Lib.hid (P14'.out.own (b := w.heap.size) (by omega) 3 (.string ⟨#[]⟩))
    have O15' := Lib.hid (O14'.out.own (b := w.heap.size) (by omega) 3 (.string ⟨#[]⟩))
    have Br_15 : Hid (Bx _ _ _ #[.int .i64 2, .string (ofL fr), .slice none 0 0, .string ⟨#[]⟩, .string ⟨#[]⟩, .int .i64 0, .slice none 0 0]) := Br_14.out.set 3 (.string ⟨#[]⟩)
    have Bx_15 := Lib.hid (Bx_14.out.other (c := w.heap.size) (i := 3) (u := .string ⟨#[]⟩) (by omega))
    have LC_15 := Lib.hid (LC_14.out.set (b := w.heap.size) (i := 3) (u := .string ⟨#[]⟩) (by omega))
    have P16' := Lib.hid (P15'.out.own (b := w.heap.size) (by omega) 4 (.string ⟨#[]⟩))
    have O16' := Lib.hid (O15'.out.own (b := w.heap.size) (by omega) 4 (.string ⟨#[]⟩))
    have Br_16 : Hid (Bx _ _ _ #[.int .i64 2, .string (ofL fr), .slice none 0 0, .string ⟨#[]⟩, .string ⟨#[]⟩, .int .i64 0, .slice none 0 0]) := Br_15.out.set 4 (.string ⟨#[]⟩)
    have Bx_16 := Lib.hid (Bx_15.out.other (c := w.heap.size) (i := 4) (u := .string ⟨#[]⟩) (by omega))
    have LC_16 := Lib.hid (LC_15.out.set (b := w.heap.size) (i := 4) (u := .string ⟨#[]⟩) (by omega))
    have P17' := Lib.hid (P16'.out.own (b := w.heap.size) (by omega) 5 (.int .i64 t))
    have O17' := Lib.hid (O16'.out.own (b := w.heap.size) (by omega) 5 (.int .i64 t))
    have Br_17 : Hid (Bx _ _ _ #[.int .i64 2, .string (ofL fr), .slice none 0 0, .string ⟨#[]⟩, .string ⟨#[]⟩, .int .i64 t, .slice none 0 0]) := Br_16.out.set 5 (.int .i64 t)
    have Bx_17 := Lib.hid (Bx_16.out.other (c := w.heap.size) (i := 5) (u := .int .i64 t) (by omega))
    have LC_17 := Lib.hid (LC_16.out.set (b := w.heap.size) (i := 5) (u := .int .i64 t) (by omega))
    have P18' := Lib.hid (P17'.out.own (b := w.heap.size) (by omega) 6 (.slice (some ⟨hh, 0, none⟩) (bs.length + 1) cap))
    have O18' := Lib.hid (O17'.out.own (b := w.heap.size) (by omega) 6 (.slice (some ⟨hh, 0, none⟩) (bs.length + 1) cap))
    have Br_18 : Hid (Bx _ _ _ #[.int .i64 2, .string (ofL fr), .slice none 0 0, .string ⟨#[]⟩, .string ⟨#[]⟩, .int .i64 t, .slice (some ⟨hh, 0, none⟩) (bs.length + 1) cap]) := Br_17.out.set 6 (.slice (some ⟨hh, 0, none⟩) (bs.length + 1) cap)
    have Bx_18 := Lib.hid (Bx_17.out.other (c := w.heap.size) (i := 6) (u := .slice (some ⟨hh, 0, none⟩) (bs.length + 1) cap) (by omega))
    have LC_18 := Lib.hid (LC_17.out.set (b := w.heap.size) (i := 6) (u := .slice (some ⟨hh, 0, none⟩) (bs.length + 1) cap) (by omega))
    refine bodyPost_ret (v := .agg #[.int .i64 2, .string (ofL fr), .slice none 0 0, .string ⟨#[]⟩, .string ⟨#[]⟩, .int .i64 t, .slice (some ⟨hh, 0, none⟩) (bs.length + 1) cap]) (bx_ret Br_18.out Tryz.results226 _ rfl Tryz.underlying70 rfl (by kernel_rfl)) rfl ?_
    exact ⟨_, rfl, (LiesL.cons (.c _ rfl) (LiesL.cons (.c _ rfl) (LiesL.cons (.nil _) (LiesL.cons (.c _ rfl) (LiesL.cons (.c _ rfl) (LiesL.cons (.c _ rfl) (LiesL.cons (LC_18.out.from (by omega)) (LiesL.nil _ _)))))))), P18'.out, O18'.out⟩
  ·skip
   have HB := Lib.hid hb
   have HW := Lib.hid (show withinP E s2 = ticksP E s3 by unfold withinP; refine (take_yes hb).trans ?_; rw [hs3])
   rw [HW.out] at HS4 HV4
   have HL := Lib.hid (show elseP E p t bs s5 = (bs, s5) by unfold elseP; rw [if_neg ht0]; rfl)
   rw [HL.out] at HS6 HV6
   clear h hb hs1 hs2 hv2 hs3 hs4 hv4 hs5 hv5 hs6 hv6 hn hn2 hn4 hn5 HI hp
   go_enter Tryz.func226, Tryz.ntmps226
   have P1' : Hid (Prs ((w).alloc oSynJ0) g E _) := H.out.alloc _
   have O1' : Hid (Only g w ((w).alloc oSynJ0)) := HO.out.alloc _
   have Br_1 : Hid (Bx ((w).alloc oSynJ0) (w.heap.size) 70 #[.int .i64 0, .string ⟨#[]⟩, .slice none 0 0, .string ⟨#[]⟩, .string ⟨#[]⟩, .int .i64 0, .slice none 0 0]) := Bx.new2 (rfl)
   have P2' : Hid (Prs (((w).alloc oSynJ0).alloc oSynJ1) g E _) := P1'.out.alloc _
   have O2' : Hid (Only g w (((w).alloc oSynJ0).alloc oSynJ1)) := O1'.out.alloc _
   have Br_2 : Hid (Bx (((w).alloc oSynJ0).alloc oSynJ1) (w.heap.size) _ _) := Br_1.out.alloc _
   have Bx_2 : Hid (Bx (((w).alloc oSynJ0).alloc oSynJ1) (w.heap.size + 1) 70 #[.int .i64 2, .string ⟨#[]⟩, .slice none 0 0, .string ⟨#[]⟩, .string ⟨#[]⟩, .int .i64 0, .slice none 0 0]) := Bx.new2 (by simp only [size_alloc])
   go_wp2_with fail
   refine (pexpect_any P2'.out [97, 116]).mono ?_; rintro e w3 ⟨rfl, P3, O3⟩
   rw [HS1.out] at P3
   have P3' := Lib.hid P3
   have O3' := Lib.hid (O2'.out.trans O3)
   have Br_3 := Lib.hid (Br_2.out.only O3 (by omega))
   have Bx_3 := Lib.hid (Bx_2.out.only O3 (by omega))
   have hz3 : w.heap.size + 2 ≤ w3.heap.size := by have := O3.size; simp only [size_alloc] at this; exact this
   clear P3 O3
   obtain ⟨cr_0, cr_1, cr_2, cr_3, cr_4, cr_5, cr_6⟩ := Br_3.out.k7
   obtain ⟨fr_0, fr_1, fr_2, fr_3, fr_4, fr_5, fr_6⟩ := Br_3.out.f7
   obtain ⟨cx_0, cx_1, cx_2, cx_3, cx_4, cx_5, cx_6⟩ := Bx_3.out.k7
   obtain ⟨fx_0, fx_1, fx_2, fx_3, fx_4, fx_5, fx_6⟩ := Bx_3.out.f7
   go_wp2_with fail
   refine (pword_any P3'.out).mono ?_; rintro e w4 ⟨rfl, P4, O4⟩
   rw [HS2.out] at P4
   rw [HV2.out]
   have P4' := Lib.hid P4
   have O4' := Lib.hid (O3'.out.trans O4)
   have Br_4 := Lib.hid (Br_3.out.only O4 (by omega))
   have Bx_4 := Lib.hid (Bx_3.out.only O4 (by omega))
   have hz4 : w3.heap.size ≤ w4.heap.size := O4.size
   clear P4 O4
   clear cr_0 fr_0 cr_1 fr_1 cr_2 fr_2 cr_3 fr_3 cr_4 fr_4 cr_5 fr_5 cr_6 fr_6 cx_0 fx_0 cx_1 fx_1 cx_2 fx_2 cx_3 fx_3 cx_4 fx_4 cx_5 fx_5 cx_6 fx_6
   obtain ⟨cr_0, cr_1, cr_2, cr_3, cr_4, cr_5, cr_6⟩ := Br_4.out.k7
   obtain ⟨fr_0, fr_1, fr_2, fr_3, fr_4, fr_5, fr_6⟩ := Br_4.out.f7
   obtain ⟨cx_0, cx_1, cx_2, cx_3, cx_4, cx_5, cx_6⟩ := Bx_4.out.k7
   obtain ⟨fx_0, fx_1, fx_2, fx_3, fx_4, fx_5, fx_6⟩ := Bx_4.out.f7
   have P5' := Lib.hid (P4'.out.own (b := w.heap.size + 1) (by omega) 1 (.string (ofL fr)))
   have O5' := Lib.hid (O4'.out.own (b := w.heap.size + 1) (by omega) 1 (.string (ofL fr)))
   have Br_5 := Lib.hid (Br_4.out.other (c := w.heap.size + 1) (i := 1) (u := .string (ofL fr)) (by omega))
   have Bx_5 : Hid (Bx _ _ _ #[.int .i64 2, .string (ofL fr), .slice none 0 0, .string ⟨#[]⟩, .string ⟨#[]⟩, .int .i64 0, .slice none 0 0]) := Bx_4.out.set 1 (.string (ofL fr))
   go_wp2_with fail
   refine (ptake_any P5'.out [119, 105, 116, 104, 105, 110]).mono ?_; rintro e w6 ⟨rfl, P6, O6⟩
   rw [HS3.out] at P6
   rw [HB.out]
   have P6' := Lib.hid P6
   have O6' := Lib.hid (O5'.out.trans O6)
   have Br_6 := Lib.hid (Br_5.out.only O6 (by omega))
   have Bx_6 := Lib.hid (Bx_5.out.only O6 (by omega))
   have hz6 : w4.heap.size ≤ w6.heap.size := by have := O6.size; simp only [size_set] at this; exact this
   clear P6 O6
   clear cr_0 fr_0 cr_1 fr_1 cr_2 fr_2 cr_3 fr_3 cr_4 fr_4 cr_5 fr_5 cr_6 fr_6 cx_0 fx_0 cx_1 fx_1 cx_2 fx_2 cx_3 fx_3 cx_4 fx_4 cx_5 fx_5 cx_6 fx_6
   obtain ⟨cr_0, cr_1, cr_2, cr_3, cr_4, cr_5, cr_6⟩ := Br_6.out.k7
   obtain ⟨fr_0, fr_1, fr_2, fr_3, fr_4, fr_5, fr_6⟩ := Br_6.out.f7
   obtain ⟨cx_0, cx_1, cx_2, cx_3, cx_4, cx_5, cx_6⟩ := Bx_6.out.k7
   obtain ⟨fx_0, fx_1, fx_2, fx_3, fx_4, fx_5, fx_6⟩ := Bx_6.out.f7
   go_wp2_with fail
   refine (pticks_any P6'.out).mono ?_; rintro e w7 ⟨rfl, P7, O7⟩
   rw [HS4.out] at P7
   rw [HV4.out]
   have P7' := Lib.hid P7
   have O7' := Lib.hid (O6'.out.trans O7)
   have Br_7 := Lib.hid (Br_6.out.only O7 (by omega))
   have Bx_7 := Lib.hid (Bx_6.out.only O7 (by omega))
   have hz7 : w6.heap.size ≤ w7.heap.size := O7.size
   clear P7 O7
   clear cr_0 fr_0 cr_1 fr_1 cr_2 fr_2 cr_3 fr_3 cr_4 fr_4 cr_5 fr_5 cr_6 fr_6 cx_0 fx_0 cx_1 fx_1 cx_2 fx_2 cx_3 fx_3 cx_4 fx_4 cx_5 fx_5 cx_6 fx_6
   obtain ⟨cr_0, cr_1, cr_2, cr_3, cr_4, cr_5, cr_6⟩ := Br_7.out.k7
   obtain ⟨fr_0, fr_1, fr_2, fr_3, fr_4, fr_5, fr_6⟩ := Br_7.out.f7
   obtain ⟨cx_0, cx_1, cx_2, cx_3, cx_4, cx_5, cx_6⟩ := Bx_7.out.k7
   obtain ⟨fx_0, fx_1, fx_2, fx_3, fx_4, fx_5, fx_6⟩ := Bx_7.out.f7
   have P8' := Lib.hid (P7'.out.own (b := w.heap.size + 1) (by omega) 5 (.int .i64 t))
   have O8' := Lib.hid (O7'.out.own (b := w.heap.size + 1) (by omega) 5 (.int .i64 t))
   have Br_8 := Lib.hid (Br_7.out.other (c := w.heap.size + 1) (i := 5) (u := .int .i64 t) (by omega))
   have Bx_8 : Hid (Bx _ _ _ #[.int .i64 2, .string (ofL fr), .slice none 0 0, .string ⟨#[]⟩, .string ⟨#[]⟩, .int .i64 t, .slice none 0 0]) := Bx_7.out.set 5 (.int .i64 t)
   go_wp2_with fail
   refine (sepBlock_any _ (blockP_dec HPD.out) (block_rd HI2.out s4.r.length HN4.out) [111, 114] P8'.out (Nat.le_refl _) P8'.out.small.len).mono ?_; rintro e w9 ⟨v, rfl, BV, P9, O9⟩
   obtain ⟨ABS, nBS, cBS, rfl, -⟩ := BV.lies.slc
   rw [HV5.out] at BV
   rw [HS5.out] at P9
   have DBS_9 := Lib.hid (show Bld w9 (w7.heap.size) 57 1 (.slice ABS nBS cBS) (bs.length) ((bs.flatMap fun x => [dB x])) from by have := BV; simp only [size_set] at this; exact this)
   have P9' := Lib.hid P9
   have O9' := Lib.hid (O8'.out.trans O9)
   have Br_9 := Lib.hid (Br_8.out.only O9 (by omega))
   have Bx_9 := Lib.hid (Bx_8.out.only O9 (by omega))
   have hz9 : w7.heap.size ≤ w9.heap.size := by have := O9.size; simp only [size_set] at this; exact this
   clear P9 O9 BV
   clear cr_0 fr_0 cr_1 fr_1 cr_2 fr_2 cr_3 fr_3 cr_4 fr_4 cr_5 fr_5 cr_6 fr_6 cx_0 fx_0 cx_1 fx_1 cx_2 fx_2 cx_3 fx_3 cx_4 fx_4 cx_5 fx_5 cx_6 fx_6
   obtain ⟨cr_0, cr_1, cr_2, cr_3, cr_4, cr_5, cr_6⟩ := Br_9.out.k7
   obtain ⟨fr_0, fr_1, fr_2, fr_3, fr_4, fr_5, fr_6⟩ := Br_9.out.f7
   obtain ⟨cx_0, cx_1, cx_2, cx_3, cx_4, cx_5, cx_6⟩ := Bx_9.out.k7
   obtain ⟨fx_0, fx_1, fx_2, fx_3, fx_4, fx_5, fx_6⟩ := Bx_9.out.f7
   have P10' := Lib.hid (P9'.out.own (b := w.heap.size + 1) (by omega) 6 (.slice ABS nBS cBS))
   have O10' := Lib.hid (O9'.out.own (b := w.heap.size + 1) (by omega) 6 (.slice ABS nBS cBS))
   have Br_10 := Lib.hid (Br_9.out.other (c := w.heap.size + 1) (i := 6) (u := .slice ABS nBS cBS) (by omega))
   have Bx_10 : Hid (Bx _ _ _ #[.int .i64 2, .string (ofL fr), .slice none 0 0, .string ⟨#[]⟩, .string ⟨#[]⟩, .int .i64 t, .slice ABS nBS cBS]) := Bx_9.out.set 6 (.slice ABS nBS cBS)
   have DBS_10 := Lib.hid (DBS_9.out.set (b := w.heap.size + 1) (i := 6) (u := .slice ABS nBS cBS) (by omega))
   go_wp2_with fail
   have h56 : s5 = s6 := HS6.out
   have hcs : bs = cs := HV6.out
   subst h56
   subst hcs
   have LC := Lib.hid (show Lies ((w9).setCell ⟨w.heap.size + 1, 6, none⟩ (.slice ABS nBS cBS)) (fun k => w7.heap.size ≤ k) (.slice ABS nBS cBS) (.s 1 (dBl bs)) by rw [dBl_map]; exact DBS_10.out.lies)
   have P11' := Lib.hid (P10'.out.own (b := w.heap.size) (by omega) 0 (.int .i64 2))
   have O11' := Lib.hid (O10'.out.own (b := w.heap.size) (by omega) 0 (.int .i64 2))
   have Br_11 : Hid (Bx _ _ _ #[.int .i64 2, .string ⟨#[]⟩, .slice none 0 0, .string ⟨#[]⟩, .string ⟨#[]⟩, .int .i64 0, .slice none 0 0]) := Br_10.out.set 0 (.int .i64 2)
   have Bx_11 := Lib.hid (Bx_10.out.other (c := w.heap.size) (i := 0) (u := .int .i64 2) (by omega))
   have LC_11 := Lib.hid (LC.out.set (b := w.heap.size) (i := 0) (u := .int .i64 2) (by omega))
   have P12' := Lib.hid (P11'.out.own (b := w.heap.size) (by omega) 1 (.string (ofL fr)))
   have O12' := Lib.hid (O11'.out.own (b := w.heap.size) (by omega) 1 (.string (ofL fr)))
   have Br_12 : Hid (Bx _ _ _ #[.int .i64 2, .string (ofL fr), .slice none 0 0, .string ⟨#[]⟩, .string ⟨#[]⟩, .int .i64 0, .slice none 0 0]) := Br_11.out.set 1 (.string (ofL fr))
   have Bx_12 := Lib.hid (Bx_11.out.other (c := w.heap.size) (i := 1) (u := .string (ofL fr)) (by omega))
   have LC_12 := Lib.hid (LC_11.out.set (b := w.heap.size) (i := 1) (u := .string (ofL fr)) (by omega))
   have P13' := Lib.hid (P12'.out.own (b := w.heap.size) (by omega) 2 (.slice none 0 0))
   have O13' := Lib.hid (O12'.out.own (b := w.heap.size) (by omega) 2 (.slice none 0 0))
   have Br_13 : Hid (Bx _ _ _ #[.int .i64 2, .string (ofL fr), .slice none 0 0, .string ⟨#[]⟩, .string ⟨#[]⟩, .int .i64 0, .slice none 0 0]) := Br_12.out.set 2 (.slice none 0 0)
   have Bx_13 := Lib.hid (Bx_12.out.other (c := w.heap.size) (i := 2) (u := .slice none 0 0) (by omega))
   have LC_13 := Lib.hid (LC_12.out.set (b := w.heap.size) (i := 2) (u := .slice none 0 0) (by omega))
   have P14' := Lib.hid (P13'.out.own (b := w.heap.size) (by omega) 3 (.string ⟨#[]⟩))
   have O14' := Lib.hid (O13'.out.own (b := w.heap.size) (by omega) 3 (.string ⟨#[]⟩))
   have Br_14 : Hid (Bx _ _ _ #[.int .i64 2, .string (ofL fr), .slice none 0 0, .string ⟨#[]⟩, .string ⟨#[]⟩, .int .i64 0, .slice none 0 0]) := Br_13.out.set 3 (.string ⟨#[]⟩)
   have Bx_14 := Lib.hid (Bx_13.out.other (c := w.heap.size) (i := 3) (u := .string ⟨#[]⟩) (by omega))
   have LC_14 := Lib.hid (LC_13.out.set (b := w.heap.size) (i := 3) (u := .string ⟨#[]⟩) (by omega))
   have P15' := Lib.hid (P14'.out.own (b := w.heap.size) (by omega) 4 (.string ⟨#[]⟩))
   have O15' := Lib.hid (O14'.out.own (b := w.heap.size) (by omega) 4 (.string ⟨#[]⟩))
   have Br_15 : Hid (Bx _ _ _ #[.int .i64 2, .string (ofL fr), .slice none 0 0, .string ⟨#[]⟩, .string ⟨#[]⟩, .int .i64 0, .slice none 0 0]) := Br_14.out.set 4 (.string ⟨#[]⟩)
   have Bx_15 := Lib.hid (Bx_14.out.other (c := w.heap.size) (i := 4) (u := .string ⟨#[]⟩) (by omega))
   have LC_15 := Lib.hid (LC_14.out.set (b := w.heap.size) (i := 4) (u := .string ⟨#[]⟩) (by omega))
   have P16' := Lib.hid (P15'.out.own (b := w.heap.size) (by omega) 5 (.int .i64 t))
   have O16' := Lib.hid (O15'.out.own (b := w.heap.size) (by omega) 5 (.int .i64 t))
   have Br_16 : Hid (Bx _ _ _ #[.int .i64 2, .string (ofL fr), .slice none 0 0, .string ⟨#[]⟩, .string ⟨#[]⟩, .int .i64 t, .slice none 0 0]) := Br_15.out.set 5 (.int .i64 t)
   have Bx_16 := Lib.hid (Bx_15.out.other (c := w.heap.size) (i := 5) (u := .int .i64 t) (by omega))
   have LC_16 := Lib.hid (LC_15.out.set (b := w.heap.size) (i := 5) (u := .int .i64 t) (by omega))
   have P17' := Lib.hid (P16'.out.own (b := w.heap.size) (by omega) 6 (.slice ABS nBS cBS))
   have O17' := Lib.hid (O16'.out.own (b := w.heap.size) (by omega) 6 (.slice ABS nBS cBS))
   have Br_17 : Hid (Bx _ _ _ #[.int .i64 2, .string (ofL fr), .slice none 0 0, .string ⟨#[]⟩, .string ⟨#[]⟩, .int .i64 t, .slice ABS nBS cBS]) := Br_16.out.set 6 (.slice ABS nBS cBS)
   have Bx_17 := Lib.hid (Bx_16.out.other (c := w.heap.size) (i := 6) (u := .slice ABS nBS cBS) (by omega))
   have LC_17 := Lib.hid (LC_16.out.set (b := w.heap.size) (i := 6) (u := .slice ABS nBS cBS) (by omega))
   refine bodyPost_ret (v := .agg #[.int .i64 2, .string (ofL fr), .slice none 0 0, .string ⟨#[]⟩, .string ⟨#[]⟩, .int .i64 t, .slice ABS nBS cBS]) (bx_ret Br_17.out Tryz.results226 _ rfl Tryz.underlying70 rfl (by kernel_rfl)) rfl ?_
   exact ⟨_, rfl, (LiesL.cons (.c _ rfl) (LiesL.cons (.c _ rfl) (LiesL.cons (.nil _) (LiesL.cons (.c _ rfl) (LiesL.cons (.c _ rfl) (LiesL.cons (.c _ rfl) (LiesL.cons (LC_17.out.from (by omega)) (LiesL.nil _ _)))))))), P17'.out, O17'.out⟩
end
end Go.Proofs.YtekpefcggikcbaaGreatDoor
