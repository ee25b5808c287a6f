/- Layer 10: the contract of protocol. -/
import Derived.Test.YtekpefcggikcbaaGreatDoorMSyTw
namespace Go.Proofs.YtekpefcggikcbaaGreatDoor
open Go.RowKit
abbrev oSynPr0 : Obj := .cells #[.string ⟨#[]⟩, .slice none 0 0, .slice none 0 0, .slice none 0 0] 59

theorem info_msg : (Tryz.prog.info? 74).map (fun i => (i.zero, i.size, i.bytes)) = some (some (.agg #[.string ⟨#[]⟩, .slice none 0 0, .slice none 0 0]), 3, 64) := by kernel_rfl
theorem ms_shape {w : World} {S : Nat → Prop} {us : List Value} {m : Ms} (h : LiesL w S us (dM m)) : ∃ A n c A' n' c', us = [.string (ofL m.nm), .slice A n c, .slice A' n' c'] := by
 obtain ⟨hl, h⟩ := h
 unfold dM at hl h
 match us, hl with
 | [u0, u1, u2], _ =>
  have h0 := (h 0 _ _ rfl rfl).cell_eq
  obtain ⟨A, n, c, h1, -⟩ := (h 1 _ _ rfl rfl).slc
  obtain ⟨A', n', c', h2, -⟩ := (h 2 _ _ rfl rfl).slc
  subst h0; subst h1; subst h2
  exact ⟨A, n, c, A', n', c', rfl⟩
section
variable {E : Nat} {s : St}
theorem messagesL_no (n : Nat) (h : seesB E [109, 101, 115, 115, 97, 103, 101] s = false) : messagesL E n s = ([], s) := by
 cases n with
 | zero => rfl
 | succ n => show (if seesB E [109, 101, 115, 115, 97, 103, 101] s = true then _ else _) = _; rw [if_neg (by simp [h])]
theorem messagesL_yes (n : Nat) (h : seesB E [109, 101, 115, 115, 97, 103, 101] s = true) : messagesL E (n + 1) s = ((messageP E s).1 :: (messagesL E n (messageP E s).2).1, (messagesL E n (messageP E s).2).2) := by
 show (if seesB E [109, 101, 115, 115, 97, 103, 101] s = true then _ else _) = _
 rw [if_pos h]
 rfl
theorem messagesL_dec : ∀ n, Dec (messagesL E n)
 | 0 => Dec.pure _
 | n + 1 => Dec.fork (messageP_dec.bind fun _ => (messagesL_dec n).bind fun _ => Dec.pure _) (Dec.pure _)
theorem messagesP_dec : Dec (messagesP E) := fun s => messagesL_dec _ s
theorem messageP_eats (h : s.r ≠ []) (he : s.e ≠ 0 → s.r = []) : (messageP E s).2.r.length < s.r.length :=
 Nat.lt_of_le_of_lt ((pathP_dec.bind fun nm => (expectP_dec _).bind fun _ => fieldsP_dec.bind fun fs => (expectP_dec _).bind fun _ => whereP_dec.bind fun wh => (expectP_dec _).bind fun _ => Dec.pure (⟨nm, fs, wh⟩ : Ms)) (expectP E [109, 101, 115, 115, 97, 103, 101] s).2) (expectP_eats _ h he)
theorem protocolP_dec : Dec (protocolP E) := (expectP_dec _).bind fun _ => wordP_dec.bind fun _ => (expectP_dec _).bind fun _ => wordsP_dec.bind fun _ => (expectP_dec _).bind fun _ => (expectP_dec _).bind fun _ => messagesP_dec.bind fun _ => bodyP_dec.bind fun _ => Dec.pure _
theorem protocolP_eats (h : s.r ≠ []) (he : s.e ≠ 0 → s.r = []) : (protocolP E s).2.r.length < s.r.length :=
 Nat.lt_of_le_of_lt ((wordP_dec.bind fun nm => (expectP_dec _).bind fun _ => wordsP_dec.bind fun rs => (expectP_dec _).bind fun _ => (expectP_dec _).bind fun _ => messagesP_dec.bind fun ms => bodyP_dec.bind fun bd => Dec.pure (⟨nm, rs, ms, bd⟩ : Pr)) (expectP E [112, 114, 111, 116, 111, 99, 111, 108] s).2) (expectP_eats _ h he)
end
/-- The loop over the messages: the box x of the protocol, its row of messages in cell 2. -/
def SyPrRel (w : World) (g E B lo : Nat) (nm : Bs) (rv : Value) (rs : List Bs) (R : List Ms × St) (gk : Nat) (wr : World) : Prop :=
 ∃ (acc : List Ms) (s1 : St) (A : Option Addr) (n c : Nat), s1.r.length ≤ gk ∧ acc.length + gk ≤ 8000 ∧ Hid (Bld wr B 74 3 (.slice A n c) acc.length (acc.flatMap dM)) ∧ Hid (Prs wr g E s1) ∧ Hid (Only g w wr) ∧ B ≤ wr.heap.size ∧
  Hid (Bx wr w.heap.size 59 #[.string ⟨#[]⟩, .slice none 0 0, .slice none 0 0, .slice none 0 0]) ∧ Hid (Bx wr (w.heap.size + 1) 59 #[.string (ofL nm), rv, .slice A n c, .slice none 0 0]) ∧
  Hid (Lies wr (fun k => lo ≤ k ∧ k < B) rv (dL rs)) ∧ Hid (R.1 = acc ++ (messagesL E gk s1).1) ∧ Hid (R.2 = (messagesL E gk s1).2)
section
variable {w w' : World} {g E : Nat} {s : St}
set_option maxRecDepth 20000 in
set_option maxHeartbeats 4000000 in
theorem pprotocol_any (h : Prs w g E s) : Calls Tryz.prog 77 #[.pointer (some ⟨g, 0, none⟩)] w (GotL w g E (protocolP E s).2 (dP (protocolP E s).1)) := by
 obtain ⟨s1, hs1⟩ : ∃ s1, (expectP E [112, 114, 111, 116, 111, 99, 111, 108] s).2 = s1 := ⟨_, rfl⟩
 have HS1 := Lib.hid hs1
 obtain ⟨s2, hs2⟩ : ∃ s2, (wordP E s1).2 = s2 := ⟨_, rfl⟩
 have HS2 := Lib.hid hs2
 obtain ⟨nm, hv2⟩ : ∃ nm, (wordP E s1).1 = nm := ⟨_, rfl⟩
 have HV2 := Lib.hid hv2
 obtain ⟨s3, hs3⟩ : ∃ s3, (expectP E [40] s2).2 = s3 := ⟨_, rfl⟩
 have HS3 := Lib.hid hs3
 obtain ⟨s4, hs4⟩ : ∃ s4, (wordsP E s3).2 = s4 := ⟨_, rfl⟩
 have HS4 := Lib.hid hs4
 obtain ⟨rs, hv4⟩ : ∃ rs, (wordsP E s3).1 = rs := ⟨_, rfl⟩
 have HV4 := Lib.hid hv4
 obtain ⟨s5, hs5⟩ : ∃ s5, (expectP E [41] s4).2 = s5 := ⟨_, rfl⟩
 have HS5 := Lib.hid hs5
 obtain ⟨s6, hs6⟩ : ∃ s6, (expectP E [123] s5).2 = s6 := ⟨_, rfl⟩
 have HS6 := Lib.hid hs6
 obtain ⟨s7, hs7⟩ : ∃ s7, (messagesP E s6).2 = s7 := ⟨_, rfl⟩
 have HS7 := Lib.hid hs7
 obtain ⟨ms, hv7⟩ : ∃ ms, (messagesP E s6).1 = ms := ⟨_, rfl⟩
 have HV7 := Lib.hid hv7
 obtain ⟨s8, hs8⟩ : ∃ s8, (bodyP E s7).2 = s8 := ⟨_, rfl⟩
 have HS8 := Lib.hid hs8
 obtain ⟨bd, hv8⟩ : ∃ bd, (bodyP E s7).1 = bd := ⟨_, rfl⟩
 have HV8 := Lib.hid hv8
 have HR := Lib.hid (show protocolP E s = (⟨nm, rs, ms, bd⟩, s8) by subst hs1; subst hs2; subst hv2; subst hs3; subst hs4; subst hv4; subst hs5; subst hs6; subst hs7; subst hv7; subst hs8; subst hv8; rfl)
 rw [HR.out]
 have H := Lib.hid h
 have hlt := h.lt
 have HO := Lib.hid (Only.refl g w)
 have HSE := Lib.hid (fun w s (h : Prs w g E s) => psees_any h [109, 101, 115, 115, 97, 103, 101])
 clear h hs1 hs2 hv2 hs3 hs4 hv4 hs5 hs6 hs7 hv7 hs8 hv8
 go_enter Tryz.func77, Tryz.ntmps77
 have P1' : Hid (Prs ((w).alloc oSynPr0) g E _) := H.out.alloc _
 have O1' : Hid (Only g w ((w).alloc oSynPr0)) := HO.out.alloc _
 have Br_1 : Hid (Bx ((w).alloc oSynPr0) (w.heap.size) 59 #[.string ⟨#[]⟩, .slice none 0 0, .slice none 0 0, .slice none 0 0]) := Bx.new2 (rfl)
 have P2' : Hid (Prs (((w).alloc oSynPr0).alloc oSynPr0) g E _) := P1'.out.alloc _
 have O2' : Hid (Only g w (((w).alloc oSynPr0).alloc oSynPr0)) := O1'.out.alloc _
 have Br_2 : Hid (Bx (((w).alloc oSynPr0).alloc oSynPr0) (w.heap.size) _ _) := Br_1.out.alloc _
 have Bx_2 : Hid (Bx (((w).alloc oSynPr0).alloc oSynPr0) (w.heap.size + 1) 59 #[.string ⟨#[]⟩, .slice none 0 0, .slice none 0 0, .slice none 0 0]) := Bx.new2 (by simp only [size_alloc])
 go_wp2_with fail
 refine (pexpect_any P2'.out [112, 114, 111, 116, 111, 99, 111, 108]).mono ?_; rintro e w3 ⟨rfl, P3, O3⟩
 rw [HS1.out] at P3
 have P3' := Lib.hid P3
 have O3' := Lib.hid (O2'.out.trans O3)
 have Br_3 := Lib.hid (Br_2.out.only O3 (by omega))
 have Bx_3 := Lib.hid (Bx_2.out.only O3 (by omega))
 have hz3 : w.heap.size + 2 ≤ w3.heap.size := by have := O3.size; simp only [size_alloc] at this; exact this
 clear P3 O3
 obtain ⟨cr_0, cr_1, cr_2, cr_3⟩ := Br_3.out.k4
 obtain ⟨fr_0, fr_1, fr_2, fr_3⟩ := Br_3.out.f4
 obtain ⟨cx_0, cx_1, cx_2, cx_3⟩ := Bx_3.out.k4
 obtain ⟨fx_0, fx_1, fx_2, fx_3⟩ := Bx_3.out.f4
 go_wp2_with fail
 refine (pword_any P3'.out).mono ?_; rintro e w4 ⟨rfl, P4, O4⟩
 rw [HS2.out] at P4
 rw [HV2.out]
 have P4' := Lib.hid P4
 have O4' := Lib.hid (O3'.out.trans O4)
 have Br_4 := Lib.hid (Br_3.out.only O4 (by omega))
 have Bx_4 := Lib.hid (Bx_3.out.only O4 (by omega))
 have hz4 : w3.heap.size ≤ w4.heap.size := O4.size
 clear P4 O4
 clear cr_0 fr_0 cr_1 fr_1 cr_2 fr_2 cr_3 fr_3 cx_0 fx_0 cx_1 fx_1 cx_2 fx_2 cx_3 fx_3
 obtain ⟨cr_0, cr_1, cr_2, cr_3⟩ := Br_4.out.k4
 obtain ⟨fr_0, fr_1, fr_2, fr_3⟩ := Br_4.out.f4
 obtain ⟨cx_0, cx_1, cx_2, cx_3⟩ := Bx_4.out.k4
 obtain ⟨fx_0, fx_1, fx_2, fx_3⟩ := Bx_4.out.f4
 have P5' := Lib.hid (P4'.out.own (b := w.heap.size + 1) (by omega) 0 (.string (ofL nm)))
 have O5' := Lib.hid (O4'.out.own (b := w.heap.size + 1) (by omega) 0 (.string (ofL nm)))
 have Br_5 := Lib.hid (Br_4.out.other (c := w.heap.size + 1) (i := 0) (u := .string (ofL nm)) (by omega))
 have Bx_5 : Hid (Bx _ _ _ #[.string (ofL nm), .slice none 0 0, .slice none 0 0, .slice none 0 0]) := Bx_4.out.set 0 (.string (ofL nm))
 go_wp2_with fail
 refine (pexpect_any P5'.out [40]).mono ?_; rintro e w6 ⟨rfl, P6, O6⟩
 rw [HS3.out] at P6
 have P6' := Lib.hid P6
 have O6' := Lib.hid (O5'.out.trans O6)
 have Br_6 := Lib.hid (Br_5.out.only O6 (by omega))
 have Bx_6 := Lib.hid (Bx_5.out.only O6 (by omega))
 have hz6 : w4.heap.size ≤ w6.heap.size := by have := O6.size; simp only [size_set] at this; exact this
 clear P6 O6
 clear cr_0 fr_0 cr_1 fr_1 cr_2 fr_2 cr_3 fr_3 cx_0 fx_0 cx_1 fx_1 cx_2 fx_2 cx_3 fx_3
 obtain ⟨cr_0, cr_1, cr_2, cr_3⟩ := Br_6.out.k4
 obtain ⟨fr_0, fr_1, fr_2, fr_3⟩ := Br_6.out.f4
 obtain ⟨cx_0, cx_1, cx_2, cx_3⟩ := Bx_6.out.k4
 obtain ⟨fx_0, fx_1, fx_2, fx_3⟩ := Bx_6.out.f4
 go_wp2_with fail
 refine (pwords_any P6'.out).mono ?_; rintro e w7 ⟨v, rfl, LV, P7, O7⟩
 obtain ⟨ARS, nRS, cRS, rfl, -⟩ := LV.slc
 rw [HV4.out] at LV
 rw [HS4.out] at P7
 have LRS_7 := Lib.hid (show Lies w7 (fun k => w6.heap.size ≤ k) (.slice ARS nRS cRS) (dL rs) from LV)
 have P7' := Lib.hid P7
 have O7' := Lib.hid (O6'.out.trans O7)
 have Br_7 := Lib.hid (Br_6.out.only O7 (by omega))
 have Bx_7 := Lib.hid (Bx_6.out.only O7 (by omega))
 have hz7 : w6.heap.size ≤ w7.heap.size := O7.size
 clear P7 O7 LV
 clear cr_0 fr_0 cr_1 fr_1 cr_2 fr_2 cr_3 fr_3 cx_0 fx_0 cx_1 fx_1 cx_2 fx_2 cx_3 fx_3
 obtain ⟨cr_0, cr_1, cr_2, cr_3⟩ := Br_7.out.k4
 obtain ⟨fr_0, fr_1, fr_2, fr_3⟩ := Br_7.out.f4
 obtain ⟨cx_0, cx_1, cx_2, cx_3⟩ := Bx_7.out.k4
 obtain ⟨fx_0, fx_1, fx_2, fx_3⟩ := Bx_7.out.f4
 have P8' := Lib.hid (P7'.out.own (b := w.heap.size + 1) (by omega) 1 (.slice ARS nRS cRS))
 have O8' := Lib.hid (O7'.out.own (b := w.heap.size + 1) (by omega) 1 (.slice ARS nRS cRS))
 have Br_8 := Lib.hid (Br_7.out.other (c := w.heap.size + 1) (i := 1) (u := .slice ARS nRS cRS) (by omega))
 have Bx_8 : Hid (Bx _ _ _ #[.string (ofL nm), .slice ARS nRS cRS, .slice none 0 0, .slice none 0 0]) := Bx_7.out.set 1 (.slice ARS nRS cRS)
 have LRS_8 := Lib.hid (LRS_7.out.set (b := w.heap.size + 1) (i := 1) (u := .slice ARS nRS cRS) (by omega))
 go_wp2_with fail
 refine (pexpect_any P8'.out [41]).mono ?_; rintro e w9 ⟨rfl, P9, O9⟩
 rw [HS5.out] at P9
 have P9' := Lib.hid P9
 have O9' := Lib.hid (O8'.out.trans O9)
 have Br_9 := Lib.hid (Br_8.out.only O9 (by omega))
 have Bx_9 := Lib.hid (Bx_8.out.only O9 (by omega))
 have LRS_9 := Lib.hid (LRS_8.out.only O9 (by omega))
 have hz9 : w7.heap.size ≤ w9.heap.size := by have := O9.size; simp only [size_set] at this; exact this
 clear P9 O9
 clear cr_0 fr_0 cr_1 fr_1 cr_2 fr_2 cr_3 fr_3 cx_0 fx_0 cx_1 fx_1 cx_2 fx_2 cx_3 fx_3
 obtain ⟨cr_0, cr_1, cr_2, cr_3⟩ := Br_9.out.k4
 obtain ⟨fr_0, fr_1, fr_2, fr_3⟩ := Br_9.out.f4
 obtain ⟨cx_0, cx_1, cx_2, cx_3⟩ := Bx_9.out.k4
 obtain ⟨fx_0, fx_1, fx_2, fx_3⟩ := Bx_9.out.f4
 go_wp2_with fail
 refine (pexpect_any P9'.out [123]).mono ?_; rintro e w10 ⟨rfl, P10, O10⟩
 rw [HS6.out] at P10
 have P10' := Lib.hid P10
 have O10' := Lib.hid (O9'.out.trans O10)
 have Br_10 := Lib.hid (Br_9.out.only O10 (by omega))
 have Bx_10 := Lib.hid (Bx_9.out.only O10 (by omega))
 have LRS_10 := Lib.hid (LRS_9.out.only O10 (by omega))
 have hz10 : w9.heap.size ≤ w10.heap.size := O10.size
 clear P10 O10
 clear cr_0 fr_0 cr_1 fr_1 cr_2 fr_2 cr_3 fr_3 cx_0 fx_0 cx_1 fx_1 cx_2 fx_2 cx_3 fx_3
 obtain ⟨cr_0, cr_1, cr_2, cr_3⟩ := Br_10.out.k4
 obtain ⟨fr_0, fr_1, fr_2, fr_3⟩ := Br_10.out.f4
 obtain ⟨cx_0, cx_1, cx_2, cx_3⟩ := Bx_10.out.k4
 obtain ⟨fx_0, fx_1, fx_2, fx_3⟩ := Bx_10.out.f4
 go_wp2_with fail
 have HLE := Lib.hid P10'.out.small.len
 have HK := Lib.hid (show Lies w10 (fun k => w6.heap.size ≤ k ∧ k < w10.heap.size) (.slice ARS nRS cRS) (dL rs) from LRS_10.out.mono fun k hk hS => ⟨hS, hk⟩)
 go_loopg [18, 19, 20, 21, 22, 23, 24, 25, 26] (s6.r.length) (fun gk _ _ _ _ _ _ _ _ _ wr => SyPrRel w g E (w10.heap.size) (w6.heap.size) nm (.slice ARS nRS cRS) rs (ms, s7) gk wr)
 case atStart =>
  exact ⟨[], s6, none, 0, 0, Nat.le_refl _, by simpa using HLE.out, Bld.nil _ _ _ _, P10', O10', Nat.le_refl _, Br_10, Bx_10, HK, HV7.out.symm, HS7.out.symm⟩
 case round =>
  clear cr_0 fr_0 cr_1 fr_1 cr_2 fr_2 cr_3 fr_3 cx_0 fx_0 cx_1 fx_1 cx_2 fx_2 cx_3 fx_3
  obtain ⟨acc, s9, A2, n2, c2, hr2, hacc, DM, PM, OM, hBw, RM, XM, KM, HE1, HE2⟩ := hrel
  have hzr : w.heap.size + 2 ≤ wr.heap.size := by have := XM.out.lt; omega
  cases hb : seesB E [109, 101, 115, 115, 97, 103, 101] s9 with
  | false =>
   have HB := Lib.hid hb
   have hms := HE1.out
   have hs7 := HE2.out
   rw [messagesL_no _ hb] at hms hs7
   rw [List.append_nil] at hms
   have HMS := Lib.hid (show ms = acc from hms)
   have HS79 := Lib.hid (show s7 = s9 from hs7)
   clear hms hs7 hb HE1 HE2
   go_wp2_with fail
   refine (HSE.out _ _ PM.out).mono ?_; rintro e w11 ⟨rfl, hb11⟩
   rw [HB.out]
   have O11 := (Only.refl g _).below hb11
   have P11 := PM.out.below hb11 PM.out.lt
   have K11 := Lib.hid (KM.out.belowT hb11)
   have P11' := Lib.hid P11
   have O11' := Lib.hid (OM.out.trans O11)
   have Br_11 := Lib.hid (RM.out.only O11 (by omega))
   have Bx_11 := Lib.hid (XM.out.only O11 (by omega))
   have DMS_11 := Lib.hid (DM.out.only O11 (by omega))
   have hz11 : wr.heap.size ≤ w11.heap.size := O11.size
   clear P11 O11 hb11
   obtain ⟨cr_0, cr_1, cr_2, cr_3⟩ := Br_11.out.k4
   obtain ⟨fr_0, fr_1, fr_2, fr_3⟩ := Br_11.out.f4
   obtain ⟨cx_0, cx_1, cx_2, cx_3⟩ := Bx_11.out.k4
   obtain ⟨fx_0, fx_1, fx_2, fx_3⟩ := Bx_11.out.f4
   go_wp2_with fail
   have HPX := P11'.out
   rw [← HS79.out] at HPX
   have PX := Lib.hid HPX
   clear HPX
   have LM := Lib.hid (show Lies w11 (fun k => w10.heap.size ≤ k) (.slice A2 n2 c2) (.s 3 (ms.flatMap dM)) by rw [HMS.out]; exact DMS_11.out.lies)
   have KM2 := Lib.hid (show Lies w11 (fun k => w6.heap.size ≤ k) (.slice ARS nRS cRS) (dL rs) from K11.out.mono fun k _ hS => hS.1)
   refine (pbody_any PX.out).mono ?_; rintro e w12 ⟨v, rfl, LV, P12, O12⟩
   obtain ⟨ABD, nBD, cBD, rfl, -⟩ := LV.slc
   rw [HV8.out] at LV
   rw [HS8.out] at P12
   have LBD_12 := Lib.hid (show Lies w12 (fun k => w11.heap.size ≤ k) (.slice ABD nBD cBD) (dB bd) from LV)
   have P12' := Lib.hid P12
   have O12' := Lib.hid (O11'.out.trans O12)
   have Br_12 := Lib.hid (Br_11.out.only O12 (by omega))
   have Bx_12 := Lib.hid (Bx_11.out.only O12 (by omega))
   have LM_12 := Lib.hid (LM.out.only O12 (by omega))
   have LK_12 := Lib.hid (KM2.out.only O12 (by omega))
   have hz12 : w11.heap.size ≤ w12.heap.size := O12.size
   clear P12 O12 LV
   clear cr_0 fr_0 cr_1 fr_1 cr_2 fr_2 cr_3 fr_3 cx_0 fx_0 cx_1 fx_1 cx_2 fx_2 cx_3 fx_3
   obtain ⟨cr_0, cr_1, cr_2, cr_3⟩ := Br_12.out.k4
   obtain ⟨fr_0, fr_1, fr_2, fr_3⟩ := Br_12.out.f4
   obtain ⟨cx_0, cx_1, cx_2, cx_3⟩ := Bx_12.out.k4
   obtain ⟨fx_0, fx_1, fx_2, fx_3⟩ := Bx_12.out.f4
   have P13' := Lib.hid (P12'.out.own (b := w.heap.size + 1) (by omega) 3 (.slice ABD nBD cBD))
   have O13' := Lib.hid (O12'.out.own (b := w.heap.size + 1) (by omega) 3 (.slice ABD nBD cBD))
   have Br_13 := Lib.hid (Br_12.out.other (c := w.heap.size + 1) (i := 3) (u := .slice ABD nBD cBD) (by omega))
   have Bx_13 : Hid (Bx _ _ _ #[.string (ofL nm), .slice ARS nRS cRS, .slice A2 n2 c2, .slice ABD nBD cBD]) := Bx_12.out.set 3 (.slice ABD nBD cBD)
   have LM_13 := Lib.hid (LM_12.out.set (b := w.heap.size + 1) (i := 3) (u := .slice ABD nBD cBD) (by omega))
   have LK_13 := Lib.hid (LK_12.out.set (b := w.heap.size + 1) (i := 3) (u := .slice ABD nBD cBD) (by omega))
   have LBD_13 := Lib.hid (LBD_12.out.set (b := w.heap.size + 1) (i := 3) (u := .slice ABD nBD cBD) (by omega))
   go_wp2_with fail
   have P14' := Lib.hid (P13'.out.own (b := w.heap.size) (by omega) 0 (.string (ofL nm)))
   have O14' := Lib.hid (O13'.out.own (b := w.heap.size) (by omega) 0 (.string (ofL nm)))
   have Br_14 : Hid (Bx _ _ _ #[.string (ofL nm), .slice none 0 0, .slice none 0 0, .slice none 0 0]) := Br_13.out.set 0 (.string (ofL nm))
   have Bx_14 := Lib.hid (Bx_13.out.other (c := w.heap.size) (i := 0) (u := .string (ofL nm)) (by omega))
   have LM_14 := Lib.hid (LM_13.out.set (b := w.heap.size) (i := 0) (u := .string (ofL nm)) (by omega))
   have LK_14 := Lib.hid (LK_13.out.set (b := w.heap.size) (i := 0) (u := .string (ofL nm)) (by omega))
   have LBD_14 := Lib.hid (LBD_13.out.set (b := w.heap.size) (i := 0) (u := .string (ofL nm)) (by omega))
   have P15' := Lib.hid (P14'.out.own (b := w.heap.size) (by omega) 1 (.slice ARS nRS cRS))
   have O15' := Lib.hid (O14'.out.own (b := w.heap.size) (by omega) 1 (.slice ARS nRS cRS))
   have Br_15 : Hid (Bx _ _ _ #[.string (ofL nm), .slice ARS nRS cRS, .slice none 0 0, .slice none 0 0]) := Br_14.out.set 1 (.slice ARS nRS cRS)
   have Bx_15 := Lib.hid (Bx_14.out.other (c := w.heap.size) (i := 1) (u := .slice ARS nRS cRS) (by omega))
   have LM_15 := Lib.hid (LM_14.out.set (b := w.heap.size) (i := 1) (u := .slice ARS nRS cRS) (by omega))
   have LK_15 := Lib.hid (LK_14.out.set (b := w.heap.size) (i := 1) (u := .slice ARS nRS cRS) (by omega))
   have LBD_15 := Lib.hid (LBD_14.out.set (b := w.heap.size) (i := 1) (u := .slice ARS nRS cRS) (by omega))
   have P16' := Lib.hid (P15'.out.own (b := w.heap.size) (by omega) 2 (.slice A2 n2 c2))
   have O16' := Lib.hid (O15'.out.own (b := w.heap.size) (by omega) 2 (.slice A2 n2 c2))
   have Br_16 : Hid (Bx _ _ _ #[.string (ofL nm), .slice ARS nRS cRS, .slice A2 n2 c2, .slice none 0 0]) := Br_15.out.set 2 (.slice A2 n2 c2)
   have Bx_16 := Lib.hid (Bx_15.out.other (c := w.heap.size) (i := 2) (u := .slice A2 n2 c2) (by omega))
   have LM_16 := Lib.hid (LM_15.out.set (b := w.heap.size) (i := 2) (u := .slice A2 n2 c2) (by omega))
   have LK_16 := Lib.hid (LK_15.out.set (b := w.heap.size) (i := 2) (u := .slice A2 n2 c2) (by omega))
   have LBD_16 := Lib.hid (LBD_15.out.set (b := w.heap.size) (i := 2) (u := .slice A2 n2 c2) (by omega))
   have P17' := Lib.hid (P16'.out.own (b := w.heap.size) (by omega) 3 (.slice ABD nBD cBD))
   have O17' := Lib.hid (O16'.out.own (b := w.heap.size) (by omega) 3 (.slice ABD nBD cBD))
   have Br_17 : Hid (Bx _ _ _ #[.string (ofL nm), .slice ARS nRS cRS, .slice A2 n2 c2, .slice ABD nBD cBD]) := Br_16.out.set 3 (.slice ABD nBD cBD)
   have Bx_17 := Lib.hid (Bx_16.out.other (c := w.heap.size) (i := 3) (u := .slice ABD nBD cBD) (by omega))
   have LM_17 := Lib.hid (LM_16.out.set (b := w.heap.size) (i := 3) (u := .slice ABD nBD cBD) (by omega))
   have LK_17 := Lib.hid (LK_16.out.set (b := w.heap.size) (i := 3) (u := .slice ABD nBD cBD) (by omega))
   have LBD_17 := Lib.hid (LBD_16.out.set (b := w.heap.size) (i := 3) (u := .slice ABD nBD cBD) (by omega))
   refine bodyPost_ret (v := .agg #[.string (ofL nm), .slice ARS nRS cRS, .slice A2 n2 c2, .slice ABD nBD cBD]) (bx_ret Br_17.out Tryz.results77 _ rfl Tryz.underlying59 rfl (by kernel_rfl)) rfl ?_
   exact ⟨_, rfl, (LiesL.cons (.c _ rfl) (LiesL.cons (LK_17.out.from (by omega)) (LiesL.cons (LM_17.out.from (by omega)) (LiesL.cons (LBD_17.out.from (by omega)) (LiesL.nil _ _))))), P17'.out, O17'.out⟩
  | true =>
   have HB := Lib.hid hb
   have hne := sees_ne hb
   have heat := messageP_eats (E := E) hne PM.out.err
   obtain ⟨gn, rfl⟩ : ∃ gn, gk = gn + 1 := ⟨gk - 1, by have := List.length_pos_iff.2 hne; omega⟩
   obtain ⟨sb, hsb⟩ : ∃ sb, (messageP E s9).2 = sb := ⟨_, rfl⟩
   obtain ⟨m, hm⟩ : ∃ m, (messageP E s9).1 = m := ⟨_, rfl⟩
   rw [hsb] at heat
   have HE3 := Lib.hid (show ms = acc ++ m :: (messagesL E gn sb).1 by have h1 := HE1.out; rw [messagesL_yes _ hb, hsb, hm] at h1; exact h1)
   have HE4 := Lib.hid (show s7 = (messagesL E gn sb).2 by have h1 := HE2.out; rw [messagesL_yes _ hb, hsb] at h1; exact h1)
   have hl4 : sb.r.length ≤ gn := by omega
   have HSB := Lib.hid hsb
   have HM := Lib.hid hm
   clear hne hb hsb hm HE1 HE2 heat
   go_wp2_with fail
   refine (HSE.out _ _ PM.out).mono ?_; rintro e w11 ⟨rfl, hb11⟩
   rw [HB.out]
   have O11 := (Only.refl g _).below hb11
   have P11 := PM.out.below hb11 PM.out.lt
   have K11 := Lib.hid (KM.out.belowT hb11)
   have P11' := Lib.hid P11
   have O11' := Lib.hid (OM.out.trans O11)
   have Br_11 := Lib.hid (RM.out.only O11 (by omega))
   have Bx_11 := Lib.hid (XM.out.only O11 (by omega))
   have DMS_11 := Lib.hid (DM.out.only O11 (by omega))
   have hz11 : wr.heap.size ≤ w11.heap.size := O11.size
   clear P11 O11 hb11
   obtain ⟨cr_0, cr_1, cr_2, cr_3⟩ := Br_11.out.k4
   obtain ⟨fr_0, fr_1, fr_2, fr_3⟩ := Br_11.out.f4
   obtain ⟨cx_0, cx_1, cx_2, cx_3⟩ := Bx_11.out.k4
   obtain ⟨fx_0, fx_1, fx_2, fx_3⟩ := Bx_11.out.f4
   go_wp2_with fail
   have hN8 := Lib.hid (show (acc.length + 1) * 64 ≤ 140737488355328 by omega)
   have hzB : w.heap.size ≤ w10.heap.size := by omega
   clear cr_0 fr_0 cr_1 fr_1 cr_2 fr_2 cr_3 fr_3 cx_0 fx_0 cx_1 fx_1 cx_2 fx_2 cx_3 fx_3
   have XP := P11'.out
   have XO := O11'.out
   have XX := Bx_11.out
   have XR := Br_11.out
   have XD := DMS_11.out
   have hsz : w11.heap.size ≤ w11.heap.size := Nat.le_refl _
   have HST := Lib.hid (fun vs => PuI.start (vs := vs) (k := 2) (s1 := sb) (ds := (dM m)) (V := (fun (v : Value) (cs : Array Value) => ∃ st A n c A' n' c', v = .agg #[.string st, .slice A n c, .slice A' n' c'] ∧ cs = #[.string st, .slice A n c, .slice A' n' c'])) XO XR XX XP XD (by omega) (K11.out : Lies _ (fun k => w6.heap.size ≤ k ∧ k < w10.heap.size) (.slice ARS nRS cRS) (dL rs)))
   clear XP XO XX XR XD
   refine region_inv (n := 31) (PuI w g E s9 sb (w.heap.size) (w.heap.size + 1) 59 #[.string ⟨#[]⟩, .slice none 0 0, .slice none 0 0, .slice none 0 0] #[.string (ofL nm), .slice ARS nRS cRS, .slice A2 n2 c2, .slice none 0 0] 2 (.slice A2 n2 c2) (w10.heap.size) 74 3 (acc.length) (acc.flatMap dM) (dM m) (fun (v : Value) (cs : Array Value) => ∃ st A n c A' n' c', v = .agg #[.string st, .slice A n c, .slice A' n' c'] ∧ cs = #[.string st, .slice A n c, .slice A' n' c']) (fun k => w6.heap.size ≤ k ∧ k < w10.heap.size) (.slice ARS nRS cRS) (dL rs)) (by kernel_rfl) (by kernel_rfl) rfl ?_ (allOps_spec ?_) ?_
   ·intro vs
    exact HST.out vs
   ·clear HST
    refine ⟨?_, ?_, ?_, ?_, ?_, ?_, ?_, ?_, trivial⟩
    ·intro L vs a w2 hB hL hd hI
     have b3 : a.tmps[3]?.getD undef = .pointer (some ⟨w.heap.size + 1, 0, none⟩) := hB.at 3 (by kernel_rfl)
     exact stepI_run (v := .pointer (some ⟨w.heap.size + 1, 2, none⟩)) rfl (by simp [execOp, go_sem, Act.eval, b3]) hI.t0
    ·intro L vs a w2 hB hL hd hI
     have b0 : a.tmps[20]?.getD undef = .pointer (some ⟨w.heap.size + 1, 2, none⟩) := (hB.val 0 (hd ⟨0, .data⟩ (by simp) rfl) 20 rfl).trans (hI.p0 (hd ⟨0, .data⟩ (by simp) rfl))
     have h7 : L 7 = false := hB.wait 5 7 (hB.wait 1 5 hL (by kernel_rfl)) (by kernel_rfl)
     have hx := hI.bX
     rw [h7, if_neg Bool.false_ne_true] at hx
     have c6 : w2.cell? ⟨w.heap.size + 1, 2, none⟩ = some (.slice A2 n2 c2) := hx.cell 2
     exact stepI_run (v := .slice A2 n2 c2) rfl (by simp [execOp, go_sem, Act.eval, b0, c6]) hI.t1
    ·intro L vs a w2 hB hL hd hI
     have bp : a.tmps[0]?.getD undef = .pointer (some ⟨g, 0, none⟩) := hB.at 0 (by kernel_rfl)
     exact stepI_run (v := .pointer (some ⟨g, 0, none⟩)) rfl (by simp [execOp, go_sem, Act.eval, bp]) hI.t2
    ·intro L vs a w2 hB hL hd hI
     have b2 : a.tmps[22]?.getD undef = .pointer (some ⟨g, 0, none⟩) := (hB.val 2 (hd ⟨2, .data⟩ (by simp) rfl) 22 rfl).trans (hI.p2 (hd ⟨2, .data⟩ (by simp) rfl))
     have h4 : L 4 = false := hB.wait 3 4 hL (by kernel_rfl)
     have h5 : L 5 = false := hB.wait 4 5 h4 (by kernel_rfl)
     have h7 : L 7 = false := hB.wait 5 7 h5 (by kernel_rfl)
     have hps := hI.ps
     rw [hL, if_neg Bool.false_ne_true] at hps
     have hws := hI.only.size
     refine stepI_call (f := 135) (args := #[.pointer (some ⟨g, 0, none⟩)]) rfl (by simp [go_sem, b2]) ?_
     refine (pmessage_any hps).mono ?_
     rintro e w3 ⟨cs, rfl, LV, P3, O3⟩; rw [HSB.out] at P3; rw [HM.out] at LV; obtain ⟨A5, n5, c5, A6, n6, c6, hcs⟩ := ms_shape LV; obtain rfl : cs = #[.string (ofL m.nm), .slice A5 n5 c5, .slice A6 n6 c6] := by rw [← Array.toArray_toList (xs := cs), hcs]
     exact ⟨_, rfl, hI.t3 h4 h5 h7 (by omega) (by omega) (by omega) ⟨_, _, _, _, _, _, _, rfl, rfl⟩ rfl LV P3 O3 (by first | exact fun h => h | (intro h; have h1 := h.1; have h2 := h.2; omega))⟩
    ·intro L vs a w2 hB hL hd hI
     have h3 : L 3 = true := hd ⟨3, .data⟩ (by simp) rfl
     have h5 : L 5 = false := hB.wait 4 5 hL (by kernel_rfl)
     have h7 : L 7 = false := hB.wait 5 7 h5 (by kernel_rfl)
     obtain ⟨cs3, hV, hz3, hl3⟩ := hI.val h3 hL
     obtain ⟨st, A5, n5, c5, A6, n6, c6, h3v, rfl⟩ := hV
     have b28 : a.tmps[23]?.getD undef = .agg #[.string st, .slice A5 n5 c5, .slice A6 n6 c6] := (hB.val 3 h3 23 rfl).trans h3v
     exact stepI_run (v := .slice (some ⟨w2.heap.size, 0, none⟩) 1 1) (w' := w2.alloc (.cells #[.string st, .slice A5 n5 c5, .slice A6 n6 c6] 74)) rfl (by simp [execOp, go_sem, Act.eval, b28]) (hI.t4 h5 h7 rfl hl3)
    ·intro L vs a w2 hB hL hd hI
     have h1 : L 1 = true := hd ⟨1, .data⟩ (by simp) rfl
     have h4 : L 4 = true := hd ⟨4, .data⟩ (by simp) rfl
     have h7 : L 7 = false := hB.wait 5 7 hL (by kernel_rfl)
     have b26 : a.tmps[21]?.getD undef = .slice A2 n2 c2 := (hB.val 1 h1 21 rfl).trans (hI.p1 h1)
     have b29 : a.tmps[24]?.getD undef = vs 4 := hB.val 4 h4 24 rfl
     exact stepI_push hI Tryz.underlying56 info_msg rfl (by decide) rfl rfl b26 b29 h4 hL h7 hN8.out (by decide) (by omega) (by omega) (by omega) (by omega) (fun k hk => by first | exact hk.elim | exact hk.2)
    ·intro L vs a w2 hB hL hd hI
     have b3 : a.tmps[3]?.getD undef = .pointer (some ⟨w.heap.size + 1, 0, none⟩) := hB.at 3 (by kernel_rfl)
     exact stepI_run (v := .pointer (some ⟨w.heap.size + 1, 2, none⟩)) rfl (by simp [execOp, go_sem, Act.eval, b3]) hI.t6
    ·intro L vs a w2 hB hL hd hI
     have h5 : L 5 = true := hd ⟨5, .data⟩ (by simp) rfl
     have h6 : L 6 = true := hd ⟨6, .data⟩ (by simp) rfl
     have h4 : L 4 = true := by cases h : L 4 with | true => rfl | false => exact absurd (hB.wait 4 5 h (by kernel_rfl)) (by simp [h5])
     obtain ⟨hh, cap, h5v, -⟩ := hI.don h5
     have b30 : a.tmps[25]?.getD undef = .slice (some ⟨hh, 0, none⟩) (acc.length + 1) cap := (hB.val 5 h5 25 rfl).trans h5v
     have b31 : a.tmps[26]?.getD undef = .pointer (some ⟨w.heap.size + 1, 2, none⟩) := (hB.val 6 h6 26 rfl).trans (hI.p6 h6)
     have hx := hI.bX
     rw [hL, if_neg Bool.false_ne_true] at hx
     have c6 : w2.cell? ⟨w.heap.size + 1, 2, none⟩ = some (.slice A2 n2 c2) := hx.cell 2
     have f6 := hx.free 2
     have hfin := hI.t7 h4 h5 hL (by omega) (by omega) (by omega) (by omega) (by first | exact fun h => h | (intro h; have h1 := h.1; have h2 := h.2; omega))
     rw [h5v] at hfin
     exact stepI_skip (w' := w2.setCell ⟨w.heap.size + 1, 2, none⟩ (.slice (some ⟨hh, 0, none⟩) (acc.length + 1) cap)) rfl (by simp [execOp, go_sem, Act.eval, b30, b31, c6, f6]) hfin
   ·intro L vs w2 hall hI
    obtain ⟨OF, RF, PF, hh, cap, h5, XF, DF, KF⟩ := hI.fin (fun i hi => hall i hi)
    rw [h5] at XF DF
    clear hI hall HST
    simp only [putAll, Act.put, List.setIfInBounds_toArray, List.set_cons_zero, List.set_cons_succ, Nat.zero_add, Nat.reduceAdd, h5]
    clear h5
    have XF2 := Lib.hid XF
    have RF2 := Lib.hid RF
    have hzf : w.heap.size + 2 ≤ w2.heap.size := by have := XF.lt; omega
    clear XF RF
    have hBw2 := DF.base (by omega)
    have PF2 := Lib.hid PF
    have OF2 := Lib.hid OF
    have DF2 := Lib.hid DF
    have KF2 := Lib.hid KF
    clear PF OF DF KF
    go_wp2_with fail
    go_roundg gn
    case rel =>
     refine ⟨acc ++ [m], sb, some ⟨hh, 0, none⟩, acc.length + 1, cap, hl4, by simp; omega, ?_, PF2, OF2, hBw2, RF2, XF2, KF2, ?_, HE4⟩
     ·have := DF2.out
      unfold Hid
      rw [List.length_append, List.flatMap_append]
      simpa using this
     ·unfold Hid; rw [List.append_assoc]; exact HE3.out
    case measure => omega
end
end Go.Proofs.YtekpefcggikcbaaGreatDoor
