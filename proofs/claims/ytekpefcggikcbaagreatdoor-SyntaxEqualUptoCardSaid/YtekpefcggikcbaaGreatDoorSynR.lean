/- Layer 10: the contract of item. -/
import Derived.Test.YtekpefcggikcbaaGreatDoorSynJ
import Derived.Test.YtekpefcggikcbaaGreatDoorMSynL
namespace Go.Proofs.YtekpefcggikcbaaGreatDoor
open Go.RowKit
abbrev oSynR0 : Obj := .cells #[.int .i64 0, .string ⟨#[]⟩, .slice none 0 0, .string ⟨#[]⟩, .string ⟨#[]⟩, .int .i64 0, .slice none 0 0] 70

section
variable {w w' : World} {g E n : Nat} {s : St} {p : P (List It)}
theorem itemP_choice (hb : (takeP E [99, 104, 111, 105, 99, 101] s).1 = true) : itemP E p s = choiceP E p (takeP E [99, 104, 111, 105, 99, 101] s).2 := take_yes hb

set_option maxRecDepth 20000 in
set_option maxHeartbeats 2000000 in
theorem pitem_any (hp : Dec p) (HI : ItemsOK g E n p) (h : Prs w g E s) (hn : s.r.length < n + 1) : Calls Tryz.prog 198 #[.pointer (some ⟨g, 0, none⟩)] w (GotL w g E (itemP E p s).2 (dIt (itemP E p s).1)) := by
 have H := Lib.hid h
 have hlt := h.lt
 have HO := Lib.hid (Only.refl g w)
 have HI2 := Lib.hid HI
 have HPD := Lib.hid hp
 have HN := Lib.hid hn
 cases hb0 : (takeP E [99, 104, 111, 105, 99, 101] s).1 with
 | true =>
  obtain ⟨s1, hs1⟩ : ∃ s1, (takeP E [99, 104, 111, 105, 99, 101] s).2 = s1 := ⟨_, rfl⟩
  obtain ⟨s9, hs9⟩ : ∃ s9, (choiceP E p s1).2 = s9 := ⟨_, rfl⟩
  obtain ⟨it, hv9⟩ : ∃ it, (choiceP E p s1).1 = it := ⟨_, rfl⟩
  have HR := Lib.hid (show itemP E p s = (it, s9) by unfold itemP; refine (take_yes hb0).trans ?_; rw [hs1]; subst hs9; subst hv9; rfl)
  rw [HR.out]
  have HL := Lib.hid (show s1.r.length < n by have := takeP_yes hb0; rw [hs1] at this; omega)
  have HB0 := Lib.hid hb0
  have HT1 := Lib.hid hs1
  have HS9 := Lib.hid hs9
  have HV9 := Lib.hid hv9
  clear h hn HI hp hs9 hv9 hb0 hs1
  go_enter Tryz.func198, Tryz.ntmps198
  have P1' : Hid (Prs ((w).alloc oSynR0) g E _) := H.out.alloc _
  have O1' : Hid (Only g w ((w).alloc oSynR0)) := HO.out.alloc _
  have Br_1 : Hid (Bx ((w).alloc oSynR0) (w.heap.size) 70 #[.int .i64 0, .string ⟨#[]⟩, .slice none 0 0, .string ⟨#[]⟩, .string ⟨#[]⟩, .int .i64 0, .slice none 0 0]) := Bx.new2 (rfl)
  go_wp2_with fail
  refine (ptake_any P1'.out [99, 104, 111, 105, 99, 101]).mono ?_; rintro e w2 ⟨rfl, P2, O2⟩
  rw [HT1.out] at P2
  rw [HB0.out]
  have P2' := Lib.hid P2
  have O2' := Lib.hid (O1'.out.trans O2)
  have Br_2 := Lib.hid (Br_1.out.only O2 (by omega))
  have hz2 : w.heap.size + 1 ≤ w2.heap.size := by have := O2.size; simp only [size_alloc] at this; exact this
  clear P2 O2
  go_wp2_with fail
  refine (pchoice_any HPD.out HI2.out P2'.out HL.out).mono ?_; rintro e w3 ⟨cs, rfl, LV, P3, O3⟩
  rw [HS9.out] at P3
  rw [HV9.out] at LV
  obtain ⟨kk, fr, to, nm, al, tk, bl⟩ := it
  obtain ⟨A, m1, c1, A2, m2, c2, hcs⟩ := it_shape LV
  obtain rfl : cs = #[.int .i64 kk, .string (ofL fr), .slice A m1 c1, .string (ofL nm), .string (ofL al), .int .i64 tk, .slice A2 m2 c2] := by rw [← Array.toArray_toList (xs := cs), hcs]
  have LL := Lib.hid (show LiesL w3 (fun k => w2.heap.size ≤ k) [.int .i64 kk, .string (ofL fr), .slice A m1 c1, .string (ofL nm), .string (ofL al), .int .i64 tk, .slice A2 m2 c2] (dIt (.mk kk fr to nm al tk bl)) from LV)
  have P3' := Lib.hid P3
  have O3' := Lib.hid (O2'.out.trans O3)
  have Br_3 := Lib.hid (Br_2.out.only O3 (by omega))
  have hz3 : w2.heap.size ≤ w3.heap.size := O3.size
  clear P3 O3 LV hcs
  obtain ⟨cr_0, cr_1, cr_2, cr_3, cr_4, cr_5, cr_6⟩ := Br_3.out.k7
  obtain ⟨fr_0, fr_1, fr_2, fr_3, fr_4, fr_5, fr_6⟩ := Br_3.out.f7
  go_wp2_with fail
  have P4' := Lib.hid (P3'.out.own (b := w.heap.size) (by omega) 0 (.int .i64 kk))
  have O4' := Lib.hid (O3'.out.own (b := w.heap.size) (by omega) 0 (.int .i64 kk))
  have Br_4 : Hid (Bx _ _ _ #[.int .i64 kk, .string ⟨#[]⟩, .slice none 0 0, .string ⟨#[]⟩, .string ⟨#[]⟩, .int .i64 0, .slice none 0 0]) := Br_3.out.set 0 (.int .i64 kk)
  have LL0 := Lib.hid (LL.out.set (b := w.heap.size) (i := 0) (v := .int .i64 kk) (by omega))
  have P5' := Lib.hid (P4'.out.own (b := w.heap.size) (by omega) 1 (.string (ofL fr)))
  have O5' := Lib.hid (O4'.out.own (b := w.heap.size) (by omega) 1 (.string (ofL fr)))
  have Br_5 : Hid (Bx _ _ _ #[.int .i64 kk, .string (ofL fr), .slice none 0 0, .string ⟨#[]⟩, .string ⟨#[]⟩, .int .i64 0, .slice none 0 0]) := Br_4.out.set 1 (.string (ofL fr))
  have LL1 := Lib.hid (LL0.out.set (b := w.heap.size) (i := 1) (v := .string (ofL fr)) (by omega))
  have P6' := Lib.hid (P5'.out.own (b := w.heap.size) (by omega) 2 (.slice A m1 c1))
  have O6' := Lib.hid (O5'.out.own (b := w.heap.size) (by omega) 2 (.slice A m1 c1))
  have Br_6 : Hid (Bx _ _ _ #[.int .i64 kk, .string (ofL fr), .slice A m1 c1, .string ⟨#[]⟩, .string ⟨#[]⟩, .int .i64 0, .slice none 0 0]) := Br_5.out.set 2 (.slice A m1 c1)
  have LL2 := Lib.hid (LL1.out.set (b := w.heap.size) (i := 2) (v := .slice A m1 c1) (by omega))
  have P7' := Lib.hid (P6'.out.own (b := w.heap.size) (by omega) 3 (.string (ofL nm)))
  have O7' := Lib.hid (O6'.out.own (b := w.heap.size) (by omega) 3 (.string (ofL nm)))
  have Br_7 : Hid (Bx _ _ _ #[.int .i64 kk, .string (ofL fr), .slice A m1 c1, .string (ofL nm), .string ⟨#[]⟩, .int .i64 0, .slice none 0 0]) := Br_6.out.set 3 (.string (ofL nm))
  have LL3 := Lib.hid (LL2.out.set (b := w.heap.size) (i := 3) (v := .string (ofL nm)) (by omega))
  have P8' := Lib.hid (P7'.out.own (b := w.heap.size) (by omega) 4 (.string (ofL al)))
  have O8' := Lib.hid (O7'.out.own (b := w.heap.size) (by omega) 4 (.string (ofL al)))
  have Br_8 : Hid (Bx _ _ _ #[.int .i64 kk, .string (ofL fr), .slice A m1 c1, .string (ofL nm), .string (ofL al), .int .i64 0, .slice none 0 0]) := Br_7.out.set 4 (.string (ofL al))
  have LL4 := Lib.hid (LL3.out.set (b := w.heap.size) (i := 4) (v := .string (ofL al)) (by omega))
  have P9' := Lib.hid (P8'.out.own (b := w.heap.size) (by omega) 5 (.int .i64 tk))
  have O9' := Lib.hid (O8'.out.own (b := w.heap.size) (by omega) 5 (.int .i64 tk))
  have Br_9 : Hid (Bx _ _ _ #[.int .i64 kk, .string (ofL fr), .slice A m1 c1, .string (ofL nm), .string (ofL al), .int .i64 tk, .slice none 0 0]) := Br_8.out.set 5 (.int .i64 tk)
  have LL5 := Lib.hid (LL4.out.set (b := w.heap.size) (i := 5) (v := .int .i64 tk) (by omega))
  have P10' := Lib.hid (P9'.out.own (b := w.heap.size) (by omega) 6 (.slice A2 m2 c2))
  have O10' := Lib.hid (O9'.out.own (b := w.heap.size) (by omega) 6 (.slice A2 m2 c2))
  have Br_10 : Hid (Bx _ _ _ #[.int .i64 kk, .string (ofL fr), .slice A m1 c1, .string (ofL nm), .string (ofL al), .int .i64 tk, .slice A2 m2 c2]) := Br_9.out.set 6 (.slice A2 m2 c2)
  have LL6 := Lib.hid (LL5.out.set (b := w.heap.size) (i := 6) (v := .slice A2 m2 c2) (by omega))
  refine bodyPost_ret (v := .agg #[.int .i64 kk, .string (ofL fr), .slice A m1 c1, .string (ofL nm), .string (ofL al), .int .i64 tk, .slice A2 m2 c2]) (bx_ret Br_10.out Tryz.results198 _ rfl Tryz.underlying70 rfl (by kernel_rfl)) rfl ?_
  exact ⟨_, rfl, LL6.out.from (by omega), P10'.out, O10'.out⟩
 | false =>
  cases hb1 : (takeP E [108, 111, 111, 112] s).1 with
  | true =>
   obtain ⟨s1, hs1⟩ : ∃ s1, (takeP E [108, 111, 111, 112] s).2 = s1 := ⟨_, rfl⟩
   obtain ⟨s9, hs9⟩ : ∃ s9, (loopP E p s1).2 = s9 := ⟨_, rfl⟩
   obtain ⟨it, hv9⟩ : ∃ it, (loopP E p s1).1 = it := ⟨_, rfl⟩
   have HR := Lib.hid (show itemP E p s = (it, s9) by unfold itemP; refine (take_no hb0).trans ?_; rw [takeP_no hb0]; refine (take_yes hb1).trans ?_; rw [hs1]; subst hs9; subst hv9; rfl)
   rw [HR.out]
   have HL := Lib.hid (show s1.r.length < n by have := takeP_yes hb1; rw [hs1] at this; omega)
   have HB0 := Lib.hid hb0
   have HB1 := Lib.hid hb1
   have HS0 := Lib.hid (takeP_no hb0)
   have HT1 := Lib.hid hs1
   have HS9 := Lib.hid hs9
   have HV9 := Lib.hid hv9
   clear h hn HI hp hs9 hv9 hb0 hb1 hs1
   go_enter Tryz.func198, Tryz.ntmps198
   have P1' : Hid (Prs ((w).alloc oSynR0) g E _) := H.out.alloc _
   have O1' : Hid (Only g w ((w).alloc oSynR0)) := HO.out.alloc _
   have Br_1 : Hid (Bx ((w).alloc oSynR0) (w.heap.size) 70 #[.int .i64 0, .string ⟨#[]⟩, .slice none 0 0, .string ⟨#[]⟩, .string ⟨#[]⟩, .int .i64 0, .slice none 0 0]) := Bx.new2 (rfl)
   go_wp2_with fail
   refine (ptake_any P1'.out [99, 104, 111, 105, 99, 101]).mono ?_; rintro e w2 ⟨rfl, P2, O2⟩
   rw [HS0.out] at P2
   rw [HB0.out]
   have P2' := Lib.hid P2
   have O2' := Lib.hid (O1'.out.trans O2)
   have Br_2 := Lib.hid (Br_1.out.only O2 (by omega))
   have hz2 : w.heap.size + 1 ≤ w2.heap.size := by have := O2.size; simp only [size_alloc] at this; exact this
   clear P2 O2
   go_wp2_with fail
   refine (ptake_any P2'.out [108, 111, 111, 112]).mono ?_; rintro e w3 ⟨rfl, P3, O3⟩
   rw [HT1.out] at P3
   rw [HB1.out]
   have P3' := Lib.hid P3
   have O3' := Lib.hid (O2'.out.trans O3)
   have Br_3 := Lib.hid (Br_2.out.only O3 (by omega))
   have hz3 : w2.heap.size ≤ w3.heap.size := O3.size
   clear P3 O3
   go_wp2_with fail
   refine (ploop_any HI2.out P3'.out HL.out).mono ?_; rintro e w4 ⟨cs, rfl, LV, P4, O4⟩
   rw [HS9.out] at P4
   rw [HV9.out] at LV
   obtain ⟨kk, fr, to, nm, al, tk, bl⟩ := it
   obtain ⟨A, m1, c1, A2, m2, c2, hcs⟩ := it_shape LV
   obtain rfl : cs = #[.int .i64 kk, .string (ofL fr), .slice A m1 c1, .string (ofL nm), .string (ofL al), .int .i64 tk, .slice A2 m2 c2] := by rw [← Array.toArray_toList (xs := cs), hcs]
   have LL := Lib.hid (show LiesL w4 (fun k => w3.heap.size ≤ k) [.int .i64 kk, .string (ofL fr), .slice A m1 c1, .string (ofL nm), .string (ofL al), .int .i64 tk, .slice A2 m2 c2] (dIt (.mk kk fr to nm al tk bl)) from LV)
   have P4' := Lib.hid P4
   have O4' := Lib.hid (O3'.out.trans O4)
   have Br_4 := Lib.hid (Br_3.out.only O4 (by omega))
   have hz4 : w3.heap.size ≤ w4.heap.size := O4.size
   clear P4 O4 LV hcs
   obtain ⟨cr_0, cr_1, cr_2, cr_3, cr_4, cr_5, cr_6⟩ := Br_4.out.k7
   obtain ⟨fr_0, fr_1, fr_2, fr_3, fr_4, fr_5, fr_6⟩ := Br_4.out.f7
   go_wp2_with fail
   have P5' := Lib.hid (P4'.out.own (b := w.heap.size) (by omega) 0 (.int .i64 kk))
   have O5' := Lib.hid (O4'.out.own (b := w.heap.size) (by omega) 0 (.int .i64 kk))
   have Br_5 : Hid (Bx _ _ _ #[.int .i64 kk, .string ⟨#[]⟩, .slice none 0 0, .string ⟨#[]⟩, .string ⟨#[]⟩, .int .i64 0, .slice none 0 0]) := Br_4.out.set 0 (.int .i64 kk)
   have LL0 := Lib.hid (LL.out.set (b := w.heap.size) (i := 0) (v := .int .i64 kk) (by omega))
   have P6' := Lib.hid (P5'.out.own (b := w.heap.size) (by omega) 1 (.string (ofL fr)))
   have O6' := Lib.hid (O5'.out.own (b := w.heap.size) (by omega) 1 (.string (ofL fr)))
   have Br_6 : Hid (Bx _ _ _ #[.int .i64 kk, .string (ofL fr), .slice none 0 0, .string ⟨#[]⟩, .string ⟨#[]⟩, .int .i64 0, .slice none 0 0]) := Br_5.out.set 1 (.string (ofL fr))
   have LL1 := Lib.hid (LL0.out.set (b := w.heap.size) (i := 1) (v := .string (ofL fr)) (by omega))
   have P7' := Lib.hid (P6'.out.own (b := w.heap.size) (by omega) 2 (.slice A m1 c1))
   have O7' := Lib.hid (O6'.out.own (b := w.heap.size) (by omega) 2 (.slice A m1 c1))
   have Br_7 : Hid (Bx _ _ _ #[.int .i64 kk, .string (ofL fr), .slice A m1 c1, .string ⟨#[]⟩, .string ⟨#[]⟩, .int .i64 0, .slice none 0 0]) := Br_6.out.set 2 (.slice A m1 c1)
   have LL2 := Lib.hid (LL1.out.set (b := w.heap.size) (i := 2) (v := .slice A m1 c1) (by omega))
   have P8' := Lib.hid (P7'.out.own (b := w.heap.size) (by omega) 3 (.string (ofL nm)))
   have O8' := Lib.hid (O7'.out.own (b := w.heap.size) (by omega) 3 (.string (ofL nm)))
   have Br_8 : Hid (Bx _ _ _ #[.int .i64 kk, .string (ofL fr), .slice A m1 c1, .string (ofL nm), .string ⟨#[]⟩, .int .i64 0, .slice none 0 0]) := Br_7.out.set 3 (.string (ofL nm))
   have LL3 := Lib.hid (LL2.out.set (b := w.heap.size) (i := 3) (v := .string (ofL nm)) (by omega))
   have P9' := Lib.hid (P8'.out.own (b := w.heap.size) (by omega) 4 (.string (ofL al)))
   have O9' := Lib.hid (O8'.out.own (b := w.heap.size) (by omega) 4 (.string (ofL al)))
   have Br_9 : Hid (Bx _ _ _ #[.int .i64 kk, .string (ofL fr), .slice A m1 c1, .string (ofL nm), .string (ofL al), .int .i64 0, .slice none 0 0]) := Br_8.out.set 4 (.string (ofL al))
   have LL4 := Lib.hid (LL3.out.set (b := w.heap.size) (i := 4) (v := .string (ofL al)) (by omega))
   have P10' := Lib.hid (P9'.out.own (b := w.heap.size) (by omega) 5 (.int .i64 tk))
   have O10' := Lib.hid (O9'.out.own (b := w.heap.size) (by omega) 5 (.int .i64 tk))
   have Br_10 : Hid (Bx _ _ _ #[.int .i64 kk, .string (ofL fr), .slice A m1 c1, .string (ofL nm), .string (ofL al), .int .i64 tk, .slice none 0 0]) := Br_9.out.set 5 (.int .i64 tk)
   have LL5 := Lib.hid (LL4.out.set (b := w.heap.size) (i := 5) (v := .int .i64 tk) (by omega))
   have P11' := Lib.hid (P10'.out.own (b := w.heap.size) (by omega) 6 (.slice A2 m2 c2))
   have O11' := Lib.hid (O10'.out.own (b := w.heap.size) (by omega) 6 (.slice A2 m2 c2))
   have Br_11 : Hid (Bx _ _ _ #[.int .i64 kk, .string (ofL fr), .slice A m1 c1, .string (ofL nm), .string (ofL al), .int .i64 tk, .slice A2 m2 c2]) := Br_10.out.set 6 (.slice A2 m2 c2)
   have LL6 := Lib.hid (LL5.out.set (b := w.heap.size) (i := 6) (v := .slice A2 m2 c2) (by omega))
   refine bodyPost_ret (v := .agg #[.int .i64 kk, .string (ofL fr), .slice A m1 c1, .string (ofL nm), .string (ofL al), .int .i64 tk, .slice A2 m2 c2]) (bx_ret Br_11.out Tryz.results198 _ rfl Tryz.underlying70 rfl (by kernel_rfl)) rfl ?_
   exact ⟨_, rfl, LL6.out.from (by omega), P11'.out, O11'.out⟩
  | false =>
   cases hb2 : (takeP E [97, 103, 97, 105, 110] s).1 with
   | true =>
    obtain ⟨s1, hs1⟩ : ∃ s1, (takeP E [97, 103, 97, 105, 110] s).2 = s1 := ⟨_, rfl⟩
    obtain ⟨s9, hs9⟩ : ∃ s9, (againP E s1).2 = s9 := ⟨_, rfl⟩
    obtain ⟨it, hv9⟩ : ∃ it, (againP E s1).1 = it := ⟨_, rfl⟩
    have HR := Lib.hid (show itemP E p s = (it, s9) by unfold itemP; refine (take_no hb0).trans ?_; rw [takeP_no hb0]; refine (take_no hb1).trans ?_; rw [takeP_no hb1]; refine (take_yes hb2).trans ?_; rw [hs1]; subst hs9; subst hv9; rfl)
    rw [HR.out]
    have HL := Lib.hid (show s1.r.length < n by have := takeP_yes hb2; rw [hs1] at this; omega)
    have HB0 := Lib.hid hb0
    have HB1 := Lib.hid hb1
    have HB2 := Lib.hid hb2
    have HS0 := Lib.hid (takeP_no hb0)
    have HS1 := Lib.hid (takeP_no hb1)
    have HT1 := Lib.hid hs1
    have HS9 := Lib.hid hs9
    have HV9 := Lib.hid hv9
    clear h hn HI hp hs9 hv9 hb0 hb1 hb2 hs1
    go_enter Tryz.func198, Tryz.ntmps198
    have P1' : Hid (Prs ((w).alloc oSynR0) g E _) := H.out.alloc _
    have O1' : Hid (Only g w ((w).alloc oSynR0)) := HO.out.alloc _
    have Br_1 : Hid (Bx ((w).alloc oSynR0) (w.heap.size) 70 #[.int .i64 0, .string ⟨#[]⟩, .slice none 0 0, .string ⟨#[]⟩, .string ⟨#[]⟩, .int .i64 0, .slice none 0 0]) := Bx.new2 (rfl)
    go_wp2_with fail
    refine (ptake_any P1'.out [99, 104, 111, 105, 99, 101]).mono ?_; rintro e w2 ⟨rfl, P2, O2⟩
    rw [HS0.out] at P2
    rw [HB0.out]
    have P2' := Lib.hid P2
    have O2' := Lib.hid (O1'.out.trans O2)
    have Br_2 := Lib.hid (Br_1.out.only O2 (by omega))
    have hz2 : w.heap.size + 1 ≤ w2.heap.size := by have := O2.size; simp only [size_alloc] at this; exact this
    clear P2 O2
    go_wp2_with fail
    refine (ptake_any P2'.out [108, 111, 111, 112]).mono ?_; rintro e w3 ⟨rfl, P3, O3⟩
    rw [HS1.out] at P3
    rw [HB1.out]
    have P3' := Lib.hid P3
    have O3' := Lib.hid (O2'.out.trans O3)
    have Br_3 := Lib.hid (Br_2.out.only O3 (by omega))
    have hz3 : w2.heap.size ≤ w3.heap.size := O3.size
    clear P3 O3
    go_wp2_with fail
    refine (ptake_any P3'.out [97, 103, 97, 105, 110]).mono ?_; rintro e w4 ⟨rfl, P4, O4⟩
    rw [HT1.out] at P4
    rw [HB2.out]
    have P4' := Lib.hid P4
    have O4' := Lib.hid (O3'.out.trans O4)
    have Br_4 := Lib.hid (Br_3.out.only O4 (by omega))
    have hz4 : w3.heap.size ≤ w4.heap.size := O4.size
    clear P4 O4
    go_wp2_with fail
    refine (pagain_any P4'.out).mono ?_; rintro e w5 ⟨cs, rfl, LV, P5, O5⟩
    rw [HS9.out] at P5
    rw [HV9.out] at LV
    obtain ⟨kk, fr, to, nm, al, tk, bl⟩ := it
    obtain ⟨A, m1, c1, A2, m2, c2, hcs⟩ := it_shape LV
    obtain rfl : cs = #[.int .i64 kk, .string (ofL fr), .slice A m1 c1, .string (ofL nm), .string (ofL al), .int .i64 tk, .slice A2 m2 c2] := by rw [← Array.toArray_toList (xs := cs), hcs]
    have LL := Lib.hid (show LiesL w5 (fun k => w4.heap.size ≤ k) [.int .i64 kk, .string (ofL fr), .slice A m1 c1, .string (ofL nm), .string (ofL al), .int .i64 tk, .slice A2 m2 c2] (dIt (.mk kk fr to nm al tk bl)) from LV)
    have P5' := Lib.hid P5
    have O5' := Lib.hid (O4'.out.trans O5)
    have Br_5 := Lib.hid (Br_4.out.only O5 (by omega))
    have hz5 : w4.heap.size ≤ w5.heap.size := O5.size
    clear P5 O5 LV hcs
    obtain ⟨cr_0, cr_1, cr_2, cr_3, cr_4, cr_5, cr_6⟩ := Br_5.out.k7
    obtain ⟨fr_0, fr_1, fr_2, fr_3, fr_4, fr_5, fr_6⟩ := Br_5.out.f7
    go_wp2_with fail
    have P6' := Lib.hid (P5'.out.own (b := w.heap.size) (by omega) 0 (.int .i64 kk))
    have O6' := Lib.hid (O5'.out.own (b := w.heap.size) (by omega) 0 (.int .i64 kk))
    have Br_6 : Hid (Bx _ _ _ #[.int .i64 kk, .string ⟨#[]⟩, .slice none 0 0, .string ⟨#[]⟩, .string ⟨#[]⟩, .int .i64 0, .slice none 0 0]) := Br_5.out.set 0 (.int .i64 kk)
    have LL0 := Lib.hid (LL.out.set (b := w.heap.size) (i := 0) (v := .int .i64 kk) (by omega))
    have P7' := Lib.hid (P6'.out.own (b := w.heap.size) (by omega) 1 (.string (ofL fr)))
    have O7' := Lib.hid (O6'.out.own (b := w.heap.size) (by omega) 1 (.string (ofL fr)))
    have Br_7 : Hid (Bx _ _ _ #[.int .i64 kk, .string (ofL fr), .slice none 0 0, .string ⟨#[]⟩, .string ⟨#[]⟩, .int .i64 0, .slice none 0 0]) := Br_6.out.set 1 (.string (ofL fr))
    have LL1 := Lib.hid (LL0.out.set (b := w.heap.size) (i := 1) (v := .string (ofL fr)) (by omega))
    have P8' := Lib.hid (P7'.out.own (b := w.heap.size) (by omega) 2 (.slice A m1 c1))
    have O8' := Lib.hid (O7'.out.own (b := w.heap.size) (by omega) 2 (.slice A m1 c1))
    have Br_8 : Hid (Bx _ _ _ #[.int .i64 kk, .string (ofL fr), .slice A m1 c1, .string ⟨#[]⟩, .string ⟨#[]⟩, .int .i64 0, .slice none 0 0]) := Br_7.out.set 2 (.slice A m1 c1)
    have LL2 := Lib.hid (LL1.out.set (b := w.heap.size) (i := 2) (v := .slice A m1 c1) (by omega))
    have P9' := Lib.hid (P8'.out.own (b := w.heap.size) (by omega) 3 (.string (ofL nm)))
    have O9' := Lib.hid (O8'.out.own (b := w.heap.size) (by omega) 3 (.string (ofL nm)))
    have Br_9 : Hid (Bx _ _ _ #[.int .i64 kk, .string (ofL fr), .slice A m1 c1, .string (ofL nm), .string ⟨#[]⟩, .int .i64 0, .slice none 0 0]) := Br_8.out.set 3 (.string (ofL nm))
    have LL3 := Lib.hid (LL2.out.set (b := w.heap.size) (i := 3) (v := .string (ofL nm)) (by omega))
    have P10' := Lib.hid (P9'.out.own (b := w.heap.size) (by omega) 4 (.string (ofL al)))
    have O10' := Lib.hid (O9'.out.own (b := w.heap.size) (by omega) 4 (.string (ofL al)))
    have Br_10 : Hid (Bx _ _ _ #[.int .i64 kk, .string (ofL fr), .slice A m1 c1, .string (ofL nm), .string (ofL al), .int .i64 0, .slice none 0 0]) := Br_9.out.set 4 (.string (ofL al))
    have LL4 := Lib.hid (LL3.out.set (b := w.heap.size) (i := 4) (v := .string (ofL al)) (by omega))
    have P11' := Lib.hid (P10'.out.own (b := w.heap.size) (by omega) 5 (.int .i64 tk))
    have O11' := Lib.hid (O10'.out.own (b := w.heap.size) (by omega) 5 (.int .i64 tk))
    have Br_11 : Hid (Bx _ _ _ #[.int .i64 kk, .string (ofL fr), .slice A m1 c1, .string (ofL nm), .string (ofL al), .int .i64 tk, .slice none 0 0]) := Br_10.out.set 5 (.int .i64 tk)
    have LL5 := Lib.hid (LL4.out.set (b := w.heap.size) (i := 5) (v := .int .i64 tk) (by omega))
    have P12' := Lib.hid (P11'.out.own (b := w.heap.size) (by omega) 6 (.slice A2 m2 c2))
    have O12' := Lib.hid (O11'.out.own (b := w.heap.size) (by omega) 6 (.slice A2 m2 c2))
    have Br_12 : Hid (Bx _ _ _ #[.int .i64 kk, .string (ofL fr), .slice A m1 c1, .string (ofL nm), .string (ofL al), .int .i64 tk, .slice A2 m2 c2]) := Br_11.out.set 6 (.slice A2 m2 c2)
    have LL6 := Lib.hid (LL5.out.set (b := w.heap.size) (i := 6) (v := .slice A2 m2 c2) (by omega))
    refine bodyPost_ret (v := .agg #[.int .i64 kk, .string (ofL fr), .slice A m1 c1, .string (ofL nm), .string (ofL al), .int .i64 tk, .slice A2 m2 c2]) (bx_ret Br_12.out Tryz.results198 _ rfl Tryz.underlying70 rfl (by kernel_rfl)) rfl ?_
    exact ⟨_, rfl, LL6.out.from (by omega), P12'.out, O12'.out⟩
   | false =>
    cases hb3 : (takeP E [112, 97, 114] s).1 with
    | true =>
     obtain ⟨s1, hs1⟩ : ∃ s1, (takeP E [112, 97, 114] s).2 = s1 := ⟨_, rfl⟩
     obtain ⟨s9, hs9⟩ : ∃ s9, (parP E p s1).2 = s9 := ⟨_, rfl⟩
     obtain ⟨it, hv9⟩ : ∃ it, (parP E p s1).1 = it := ⟨_, rfl⟩
     have HR := Lib.hid (show itemP E p s = (it, s9) by unfold itemP; refine (take_no hb0).trans ?_; rw [takeP_no hb0]; refine (take_no hb1).trans ?_; rw [takeP_no hb1]; refine (take_no hb2).trans ?_; rw [takeP_no hb2]; refine (take_yes hb3).trans ?_; rw [hs1]; subst hs9; subst hv9; rfl)
     rw [HR.out]
     have HL := Lib.hid (show s1.r.length < n by have := takeP_yes hb3; rw [hs1] at this; omega)
     have HB0 := Lib.hid hb0
     have HB1 := Lib.hid hb1
     have HB2 := Lib.hid hb2
     have HB3 := Lib.hid hb3
     have HS0 := Lib.hid (takeP_no hb0)
     have HS1 := Lib.hid (takeP_no hb1)
     have HS2 := Lib.hid (takeP_no hb2)
     have HT1 := Lib.hid hs1
     have HS9 := Lib.hid hs9
     have HV9 := Lib.hid hv9
     clear h hn HI hp hs9 hv9 hb0 hb1 hb2 hb3 hs1
     go_enter Tryz.func198, Tryz.ntmps198
     have P1' : Hid (Prs ((w).alloc oSynR0) g E _) := H.out.alloc _
     have O1' : Hid (Only g w ((w).alloc oSynR0)) := HO.out.alloc _
     have Br_1 : Hid (Bx ((w).alloc oSynR0) (w.heap.size) 70 #[.int .i64 0, .string ⟨#[]⟩, .slice none 0 0, .string ⟨#[]⟩, .string ⟨#[]⟩, .int .i64 0, .slice none 0 0]) := Bx.new2 (rfl)
     go_wp2_with fail
     refine (ptake_any P1'.out [99, 104, 111, 105, 99, 101]).mono ?_; rintro e w2 ⟨rfl, P2, O2⟩
     rw [HS0.out] at P2
     rw [HB0.out]
     have P2' := Lib.hid P2
     have O2' := Lib.hid (O1'.out.trans O2)
     have Br_2 := Lib.hid (Br_1.out.only O2 (by omega))
     have hz2 : w.heap.size + 1 ≤ w2.heap.size := by have := O2.size; simp only [size_alloc] at this; exact this
     clear P2 O2
     go_wp2_with fail
     refine (ptake_any P2'.out [108, 111, 111, 112]).mono ?_; rintro e w3 ⟨rfl, P3, O3⟩
     rw [HS1.out] at P3
     rw [HB1.out]
     have P3' := Lib.hid P3
     have O3' := Lib.hid (O2'.out.trans O3)
     have Br_3 := Lib.hid (Br_2.out.only O3 (by omega))
     have hz3 : w2.heap.size ≤ w3.heap.size := O3.size
     clear P3 O3
     go_wp2_with fail
     refine (ptake_any P3'.out [97, 103, 97, 105, 110]).mono ?_; rintro e w4 ⟨rfl, P4, O4⟩
     rw [HS2.out] at P4
     rw [HB2.out]
     have P4' := Lib.hid P4
     have O4' := Lib.hid (O3'.out.trans O4)
     have Br_4 := Lib.hid (Br_3.out.only O4 (by omega))
     have hz4 : w3.heap.size ≤ w4.heap.size := O4.size
     clear P4 O4
     go_wp2_with fail
     refine (ptake_any P4'.out [112, 97, 114]).mono ?_; rintro e w5 ⟨rfl, P5, O5⟩
     rw [HT1.out] at P5
     rw [HB3.out]
     have P5' := Lib.hid P5
     have O5' := Lib.hid (O4'.out.trans O5)
     have Br_5 := Lib.hid (Br_4.out.only O5 (by omega))
     have hz5 : w4.heap.size ≤ w5.heap.size := O5.size
     clear P5 O5
     go_wp2_with fail
     refine (ppar_any HPD.out HI2.out P5'.out HL.out).mono ?_; rintro e w6 ⟨cs, rfl, LV, P6, O6⟩
     rw [HS9.out] at P6
     rw [HV9.out] at LV
     obtain ⟨kk, fr, to, nm, al, tk, bl⟩ := it
     obtain ⟨A, m1, c1, A2, m2, c2, hcs⟩ := it_shape LV
     obtain rfl : cs = #[.int .i64 kk, .string (ofL fr), .slice A m1 c1, .string (ofL nm), .string (ofL al), .int .i64 tk, .slice A2 m2 c2] := by rw [← Array.toArray_toList (xs := cs), hcs]
     have LL := Lib.hid (show LiesL w6 (fun k => w5.heap.size ≤ k) [.int .i64 kk, .string (ofL fr), .slice A m1 c1, .string (ofL nm), .string (ofL al), .int .i64 tk, .slice A2 m2 c2] (dIt (.mk kk fr to nm al tk bl)) from LV)
     have P6' := Lib.hid P6
     have O6' := Lib.hid (O5'.out.trans O6)
     have Br_6 := Lib.hid (Br_5.out.only O6 (by omega))
     have hz6 : w5.heap.size ≤ w6.heap.size := O6.size
     clear P6 O6 LV hcs
     obtain ⟨cr_0, cr_1, cr_2, cr_3, cr_4, cr_5, cr_6⟩ := Br_6.out.k7
     obtain ⟨fr_0, fr_1, fr_2, fr_3, fr_4, fr_5, fr_6⟩ := Br_6.out.f7
     go_wp2_with fail
     have P7' := Lib.hid (P6'.out.own (b := w.heap.size) (by omega) 0 (.int .i64 kk))
     have O7' := Lib.hid (O6'.out.own (b := w.heap.size) (by omega) 0 (.int .i64 kk))
     have Br_7 : Hid (Bx _ _ _ #[.int .i64 kk, .string ⟨#[]⟩, .slice none 0 0, .string ⟨#[]⟩, .string ⟨#[]⟩, .int .i64 0, .slice none 0 0]) := Br_6.out.set 0 (.int .i64 kk)
     have LL0 := Lib.hid (LL.out.set (b := w.heap.size) (i := 0) (v := .int .i64 kk) (by omega))
     have P8' := Lib.hid (P7'.out.own (b := w.heap.size) (by omega) 1 (.string (ofL fr)))
     have O8' := Lib.hid (O7'.out.own (b := w.heap.size) (by omega) 1 (.string (ofL fr)))
     have Br_8 : Hid (Bx _ _ _ #[.int .i64 kk, .string (ofL fr), .slice none 0 0, .string ⟨#[]⟩, .string ⟨#[]⟩, .int .i64 0, .slice none 0 0]) := Br_7.out.set 1 (.string (ofL fr))
     have LL1 := Lib.hid (LL0.out.set (b := w.heap.size) (i := 1) (v := .string (ofL fr)) (by omega))
     have P9' := Lib.hid (P8'.out.own (b := w.heap.size) (by omega) 2 (.slice A m1 c1))
     have O9' := Lib.hid (O8'.out.own (b := w.heap.size) (by omega) 2 (.slice A m1 c1))
     have Br_9 : Hid (Bx _ _ _ #[.int .i64 kk, .string (ofL fr), .slice A m1 c1, .string ⟨#[]⟩, .string ⟨#[]⟩, .int .i64 0, .slice none 0 0]) := Br_8.out.set 2 (.slice A m1 c1)
     have LL2 := Lib.hid (LL1.out.set (b := w.heap.size) (i := 2) (v := .slice A m1 c1) (by omega))
     have P10' := Lib.hid (P9'.out.own (b := w.heap.size) (by omega) 3 (.string (ofL nm)))
     have O10' := Lib.hid (O9'.out.own (b := w.heap.size) (by omega) 3 (.string (ofL nm)))
     have Br_10 : Hid (Bx _ _ _ #[.int .i64 kk, .string (ofL fr), .slice A m1 c1, .string (ofL nm), .string ⟨#[]⟩, .int .i64 0, .slice none 0 0]) := Br_9.out.set 3 (.string (ofL nm))
     have LL3 := Lib.hid (LL2.out.set (b := w.heap.size) (i := 3) (v := .string (ofL nm)) (by omega))
     have P11' := Lib.hid (P10'.out.own (b := w.heap.size) (by omega) 4 (.string (ofL al)))
     have O11' := Lib.hid (O10'.out.own (b := w.heap.size) (by omega) 4 (.string (ofL al)))
     have Br_11 : Hid (Bx _ _ _ #[.int .i64 kk, .string (ofL fr), .slice A m1 c1, .string (ofL nm), .string (ofL al), .int .i64 0, .slice none 0 0]) := Br_10.out.set 4 (.string (ofL al))
     have LL4 := Lib.hid (LL3.out.set (b := w.heap.size) (i := 4) (v := .string (ofL al)) (by omega))
     have P12' := Lib.hid (P11'.out.own (b := w.heap.size) (by omega) 5 (.int .i64 tk))
     have O12' := Lib.hid (O11'.out.own (b := w.heap.size) (by omega) 5 (.int .i64 tk))
     have Br_12 : Hid (Bx _ _ _ #[.int .i64 kk, .string (ofL fr), .slice A m1 c1, .string (ofL nm), .string (ofL al), .int .i64 tk, .slice none 0 0]) := Br_11.out.set 5 (.int .i64 tk)
     have LL5 := Lib.hid (LL4.out.set (b := w.heap.size) (i := 5) (v := .int .i64 tk) (by omega))
     have P13' := Lib.hid (P12'.out.own (b := w.heap.size) (by omega) 6 (.slice A2 m2 c2))
     have O13' := Lib.hid (O12'.out.own (b := w.heap.size) (by omega) 6 (.slice A2 m2 c2))
     have Br_13 : Hid (Bx _ _ _ #[.int .i64 kk, .string (ofL fr), .slice A m1 c1, .string (ofL nm), .string (ofL al), .int .i64 tk, .slice A2 m2 c2]) := Br_12.out.set 6 (.slice A2 m2 c2)
     have LL6 := Lib.hid (LL5.out.set (b := w.heap.size) (i := 6) (v := .slice A2 m2 c2) (by omega))
     refine bodyPost_ret (v := .agg #[.int .i64 kk, .string (ofL fr), .slice A m1 c1, .string (ofL nm), .string (ofL al), .int .i64 tk, .slice A2 m2 c2]) (bx_ret Br_13.out Tryz.results198 _ rfl Tryz.underlying70 rfl (by kernel_rfl)) rfl ?_
     exact ⟨_, rfl, LL6.out.from (by omega), P13'.out, O13'.out⟩
    | false =>
     cases hb4 : (takeP E [99, 97, 108, 108] s).1 with
     | true =>
      obtain ⟨s1, hs1⟩ : ∃ s1, (takeP E [99, 97, 108, 108] s).2 = s1 := ⟨_, rfl⟩
      obtain ⟨s9, hs9⟩ : ∃ s9, (callP E s1).2 = s9 := ⟨_, rfl⟩
      obtain ⟨it, hv9⟩ : ∃ it, (callP E s1).1 = it := ⟨_, rfl⟩
      have HR := Lib.hid (show itemP E p s = (it, s9) by unfold itemP; refine (take_no hb0).trans ?_; rw [takeP_no hb0]; refine (take_no hb1).trans ?_; rw [takeP_no hb1]; refine (take_no hb2).trans ?_; rw [takeP_no hb2]; refine (take_no hb3).trans ?_; rw [takeP_no hb3]; refine (take_yes hb4).trans ?_; rw [hs1]; subst hs9; subst hv9; rfl)
      rw [HR.out]
      have HL := Lib.hid (show s1.r.length < n by have := takeP_yes hb4; rw [hs1] at this; omega)
      have HB0 := Lib.hid hb0
      have HB1 := Lib.hid hb1
      have HB2 := Lib.hid hb2
      have HB3 := Lib.hid hb3
      have HB4 := Lib.hid hb4
      have HS0 := Lib.hid (takeP_no hb0)
      have HS1 := Lib.hid (takeP_no hb1)
      have HS2 := Lib.hid (takeP_no hb2)
      have HS3 := Lib.hid (takeP_no hb3)
      have HT1 := Lib.hid hs1
      have HS9 := Lib.hid hs9
      have HV9 := Lib.hid hv9
      clear h hn HI hp hs9 hv9 hb0 hb1 hb2 hb3 hb4 hs1
      go_enter Tryz.func198, Tryz.ntmps198
      have P1' : Hid (Prs ((w).alloc oSynR0) g E _) := H.out.alloc _
      have O1' : Hid (Only g w ((w).alloc oSynR0)) := HO.out.alloc _
      have Br_1 : Hid (Bx ((w).alloc oSynR0) (w.heap.size) 70 #[.int .i64 0, .string ⟨#[]⟩, .slice none 0 0, .string ⟨#[]⟩, .string ⟨#[]⟩, .int .i64 0, .slice none 0 0]) := Bx.new2 (rfl)
      go_wp2_with fail
      refine (ptake_any P1'.out [99, 104, 111, 105, 99, 101]).mono ?_; rintro e w2 ⟨rfl, P2, O2⟩
      rw [HS0.out] at P2
      rw [HB0.out]
      have P2' := Lib.hid P2
      have O2' := Lib.hid (O1'.out.trans O2)
      have Br_2 := Lib.hid (Br_1.out.only O2 (by omega))
      have hz2 : w.heap.size + 1 ≤ w2.heap.size := by have := O2.size; simp only [size_alloc] at this; exact this
      clear P2 O2
      go_wp2_with fail
      refine (ptake_any P2'.out [108, 111, 111, 112]).mono ?_; rintro e w3 ⟨rfl, P3, O3⟩
      rw [HS1.out] at P3
      rw [HB1.out]
      have P3' := Lib.hid P3
      have O3' := Lib.hid (O2'.out.trans O3)
      have Br_3 := Lib.hid (Br_2.out.only O3 (by omega))
      have hz3 : w2.heap.size ≤ w3.heap.size := O3.size
      clear P3 O3
      go_wp2_with fail
      refine (ptake_any P3'.out [97, 103, 97, 105, 110]).mono ?_; rintro e w4 ⟨rfl, P4, O4⟩
      rw [HS2.out] at P4
      rw [HB2.out]
      have P4' := Lib.hid P4
      have O4' := Lib.hid (O3'.out.trans O4)
      have Br_4 := Lib.hid (Br_3.out.only O4 (by omega))
      have hz4 : w3.heap.size ≤ w4.heap.size := O4.size
      clear P4 O4
      go_wp2_with fail
      refine (ptake_any P4'.out [112, 97, 114]).mono ?_; rintro e w5 ⟨rfl, P5, O5⟩
      rw [HS3.out] at P5
      rw [HB3.out]
      have P5' := Lib.hid P5
      have O5' := Lib.hid (O4'.out.trans O5)
      have Br_5 := Lib.hid (Br_4.out.only O5 (by omega))
      have hz5 : w4.heap.size ≤ w5.heap.size := O5.size
      clear P5 O5
      go_wp2_with fail
      refine (ptake_any P5'.out [99, 97, 108, 108]).mono ?_; rintro e w6 ⟨rfl, P6, O6⟩
      rw [HT1.out] at P6
      rw [HB4.out]
      have P6' := Lib.hid P6
      have O6' := Lib.hid (O5'.out.trans O6)
      have Br_6 := Lib.hid (Br_5.out.only O6 (by omega))
      have hz6 : w5.heap.size ≤ w6.heap.size := O6.size
      clear P6 O6
      go_wp2_with fail
      refine (pcall_any P6'.out).mono ?_; rintro e w7 ⟨cs, rfl, LV, P7, O7⟩
      rw [HS9.out] at P7
      rw [HV9.out] at LV
      obtain ⟨kk, fr, to, nm, al, tk, bl⟩ := it
      obtain ⟨A, m1, c1, A2, m2, c2, hcs⟩ := it_shape LV
      obtain rfl : cs = #[.int .i64 kk, .string (ofL fr), .slice A m1 c1, .string (ofL nm), .string (ofL al), .int .i64 tk, .slice A2 m2 c2] := by rw [← Array.toArray_toList (xs := cs), hcs]
      have LL := Lib.hid (show LiesL w7 (fun k => w6.heap.size ≤ k) [.int .i64 kk, .string (ofL fr), .slice A m1 c1, .string (ofL nm), .string (ofL al), .int .i64 tk, .slice A2 m2 c2] (dIt (.mk kk fr to nm al tk bl)) from LV)
      have P7' := Lib.hid P7
      have O7' := Lib.hid (O6'.out.trans O7)
      have Br_7 := Lib.hid (Br_6.out.only O7 (by omega))
      have hz7 : w6.heap.size ≤ w7.heap.size := O7.size
      clear P7 O7 LV hcs
      obtain ⟨cr_0, cr_1, cr_2, cr_3, cr_4, cr_5, cr_6⟩ := Br_7.out.k7
      obtain ⟨fr_0, fr_1, fr_2, fr_3, fr_4, fr_5, fr_6⟩ := Br_7.out.f7
      go_wp2_with fail
      have P8' := Lib.hid (P7'.out.own (b := w.heap.size) (by omega) 0 (.int .i64 kk))
      have O8' := Lib.hid (O7'.out.own (b := w.heap.size) (by omega) 0 (.int .i64 kk))
      have Br_8 : Hid (Bx _ _ _ #[.int .i64 kk, .string ⟨#[]⟩, .slice none 0 0, .string ⟨#[]⟩, .string ⟨#[]⟩, .int .i64 0, .slice none 0 0]) := Br_7.out.set 0 (.int .i64 kk)
      have LL0 := Lib.hid (LL.out.set (b := w.heap.size) (i := 0) (v := .int .i64 kk) (by omega))
      have P9' := Lib.hid (P8'.out.own (b := w.heap.size) (by omega) 1 (.string (ofL fr)))
      have O9' := Lib.hid (O8'.out.own (b := w.heap.size) (by omega) 1 (.string (ofL fr)))
      have Br_9 : Hid (Bx _ _ _ #[.int .i64 kk, .string (ofL fr), .slice none 0 0, .string ⟨#[]⟩, .string ⟨#[]⟩, .int .i64 0, .slice none 0 0]) := Br_8.out.set 1 (.string (ofL fr))
      have LL1 := Lib.hid (LL0.out.set (b := w.heap.size) (i := 1) (v := .string (ofL fr)) (by omega))
      have P10' := Lib.hid (P9'.out.own (b := w.heap.size) (by omega) 2 (.slice A m1 c1))
      have O10' := Lib.hid (O9'.out.own (b := w.heap.size) (by omega) 2 (.slice A m1 c1))
      have Br_10 : Hid (Bx _ _ _ #[.int .i64 kk, .string (ofL fr), .slice A m1 c1, .string ⟨#[]⟩, .string ⟨#[]⟩, .int .i64 0, .slice none 0 0]) := Br_9.out.set 2 (.slice A m1 c1)
      have LL2 := Lib.hid (LL1.out.set (b := w.heap.size) (i := 2) (v := .slice A m1 c1) (by omega))
      have P11' := Lib.hid (P10'.out.own (b := w.heap.size) (by omega) 3 (.string (ofL nm)))
      have O11' := Lib.hid (O10'.out.own (b := w.heap.size) (by omega) 3 (.string (ofL nm)))
      have Br_11 : Hid (Bx _ _ _ #[.int .i64 kk, .string (ofL fr), .slice A m1 c1, .string (ofL nm), .string ⟨#[]⟩, .int .i64 0, .slice none 0 0]) := Br_10.out.set 3 (.string (ofL nm))
      have LL3 := Lib.hid (LL2.out.set (b := w.heap.size) (i := 3) (v := .string (ofL nm)) (by omega))
      have P12' := Lib.hid (P11'.out.own (b := w.heap.size) (by omega) 4 (.string (ofL al)))
      have O12' := Lib.hid (O11'.out.own (b := w.heap.size) (by omega) 4 (.string (ofL al)))
      have Br_12 : Hid (Bx _ _ _ #[.int .i64 kk, .string (ofL fr), .slice A m1 c1, .string (ofL nm), .string (ofL al), .int .i64 0, .slice none 0 0]) := Br_11.out.set 4 (.string (ofL al))
      have LL4 := Lib.hid (LL3.out.set (b := w.heap.size) (i := 4) (v := .string (ofL al)) (by omega))
      have P13' := Lib.hid (P12'.out.own (b := w.heap.size) (by omega) 5 (.int .i64 tk))
      have O13' := Lib.hid (O12'.out.own (b := w.heap.size) (by omega) 5 (.int .i64 tk))
      have Br_13 : Hid (Bx _ _ _ #[.int .i64 kk, .string (ofL fr), .slice A m1 c1, .string (ofL nm), .string (ofL al), .int .i64 tk, .slice none 0 0]) := Br_12.out.set 5 (.int .i64 tk)
      have LL5 := Lib.hid (LL4.out.set (b := w.heap.size) (i := 5) (v := .int .i64 tk) (by omega))
      have P14' := Lib.hid (P13'.out.own (b := w.heap.size) (by omega) 6 (.slice A2 m2 c2))
      have O14' := Lib.hid (O13'.out.own (b := w.heap.size) (by omega) 6 (.slice A2 m2 c2))
      have Br_14 : Hid (Bx _ _ _ #[.int .i64 kk, .string (ofL fr), .slice A m1 c1, .string (ofL nm), .string (ofL al), .int .i64 tk, .slice A2 m2 c2]) := Br_13.out.set 6 (.slice A2 m2 c2)
      have LL6 := Lib.hid (LL5.out.set (b := w.heap.size) (i := 6) (v := .slice A2 m2 c2) (by omega))
      refine bodyPost_ret (v := .agg #[.int .i64 kk, .string (ofL fr), .slice A m1 c1, .string (ofL nm), .string (ofL al), .int .i64 tk, .slice A2 m2 c2]) (bx_ret Br_14.out Tryz.results198 _ rfl Tryz.underlying70 rfl (by kernel_rfl)) rfl ?_
      exact ⟨_, rfl, LL6.out.from (by omega), P14'.out, O14'.out⟩
     | false =>
      obtain ⟨s9, hs9⟩ : ∃ s9, (sendP E s).2 = s9 := ⟨_, rfl⟩
      obtain ⟨it, hv9⟩ : ∃ it, (sendP E s).1 = it := ⟨_, rfl⟩
      have HR := Lib.hid (show itemP E p s = (it, s9) by unfold itemP; refine (take_no hb0).trans ?_; rw [takeP_no hb0]; refine (take_no hb1).trans ?_; rw [takeP_no hb1]; refine (take_no hb2).trans ?_; rw [takeP_no hb2]; refine (take_no hb3).trans ?_; rw [takeP_no hb3]; refine (take_no hb4).trans ?_; rw [takeP_no hb4]; subst hs9; subst hv9; rfl)
      rw [HR.out]
      have HB0 := Lib.hid hb0
      have HB1 := Lib.hid hb1
      have HB2 := Lib.hid hb2
      have HB3 := Lib.hid hb3
      have HB4 := Lib.hid hb4
      have HS0 := Lib.hid (takeP_no hb0)
      have HS1 := Lib.hid (takeP_no hb1)
      have HS2 := Lib.hid (takeP_no hb2)
      have HS3 := Lib.hid (takeP_no hb3)
      have HS4 := Lib.hid (takeP_no hb4)
      have HS9 := Lib.hid hs9
      have HV9 := Lib.hid hv9
      clear h hn HI hp hs9 hv9 hb0 hb1 hb2 hb3 hb4 
      go_enter Tryz.func198, Tryz.ntmps198
      have P1' : Hid (Prs ((w).alloc oSynR0) g E _) := H.out.alloc _
      have O1' : Hid (Only g w ((w).alloc oSynR0)) := HO.out.alloc _
      have Br_1 : Hid (Bx ((w).alloc oSynR0) (w.heap.size) 70 #[.int .i64 0, .string ⟨#[]⟩, .slice none 0 0, .string ⟨#[]⟩, .string ⟨#[]⟩, .int .i64 0, .slice none 0 0]) := Bx.new2 (rfl)
      go_wp2_with fail
      refine (ptake_any P1'.out [99, 104, 111, 105, 99, 101]).mono ?_; rintro e w2 ⟨rfl, P2, O2⟩
      rw [HS0.out] at P2
      rw [HB0.out]
      have P2' := Lib.hid P2
      have O2' := Lib.hid (O1'.out.trans O2)
      have Br_2 := Lib.hid (Br_1.out.only O2 (by omega))
      have hz2 : w.heap.size + 1 ≤ w2.heap.size := by have := O2.size; simp only [size_alloc] at this; exact this
      clear P2 O2
      go_wp2_with fail
      refine (ptake_any P2'.out [108, 111, 111, 112]).mono ?_; rintro e w3 ⟨rfl, P3, O3⟩
      rw [HS1.out] at P3
      rw [HB1.out]
      have P3' := Lib.hid P3
      have O3' := Lib.hid (O2'.out.trans O3)
      have Br_3 := Lib.hid (Br_2.out.only O3 (by omega))
      have hz3 : w2.heap.size ≤ w3.heap.size := O3.size
      clear P3 O3
      go_wp2_with fail
      refine (ptake_any P3'.out [97, 103, 97, 105, 110]).mono ?_; rintro e w4 ⟨rfl, P4, O4⟩
      rw [HS2.out] at P4
      rw [HB2.out]
      have P4' := Lib.hid P4
      have O4' := Lib.hid (O3'.out.trans O4)
      have Br_4 := Lib.hid (Br_3.out.only O4 (by omega))
      have hz4 : w3.heap.size ≤ w4.heap.size := O4.size
      clear P4 O4
      go_wp2_with fail
      refine (ptake_any P4'.out [112, 97, 114]).mono ?_; rintro e w5 ⟨rfl, P5, O5⟩
      rw [HS3.out] at P5
      rw [HB3.out]
      have P5' := Lib.hid P5
      have O5' := Lib.hid (O4'.out.trans O5)
      have Br_5 := Lib.hid (Br_4.out.only O5 (by omega))
      have hz5 : w4.heap.size ≤ w5.heap.size := O5.size
      clear P5 O5
      go_wp2_with fail
      refine (ptake_any P5'.out [99, 97, 108, 108]).mono ?_; rintro e w6 ⟨rfl, P6, O6⟩
      rw [HS4.out] at P6
      rw [HB4.out]
      have P6' := Lib.hid P6
      have O6' := Lib.hid (O5'.out.trans O6)
      have Br_6 := Lib.hid (Br_5.out.only O6 (by omega))
      have hz6 : w5.heap.size ≤ w6.heap.size := O6.size
      clear P6 O6
      go_wp2_with fail
      refine (psend_any P6'.out).mono ?_; rintro e w7 ⟨cs, rfl, LV, P7, O7⟩
      rw [HS9.out] at P7
      rw [HV9.out] at LV
      obtain ⟨kk, fr, to, nm, al, tk, bl⟩ := it
      obtain ⟨A, m1, c1, A2, m2, c2, hcs⟩ := it_shape LV
      obtain rfl : cs = #[.int .i64 kk, .string (ofL fr), .slice A m1 c1, .string (ofL nm), .string (ofL al), .int .i64 tk, .slice A2 m2 c2] := by rw [← Array.toArray_toList (xs := cs), hcs]
      have LL := Lib.hid (show LiesL w7 (fun k => w6.heap.size ≤ k) [.int .i64 kk, .string (ofL fr), .slice A m1 c1, .string (ofL nm), .string (ofL al), .int .i64 tk, .slice A2 m2 c2] (dIt (.mk kk fr to nm al tk bl)) from LV)
      have P7' := Lib.hid P7
      have O7' := Lib.hid (O6'.out.trans O7)
      have Br_7 := Lib.hid (Br_6.out.only O7 (by omega))
      have hz7 : w6.heap.size ≤ w7.heap.size := O7.size
      clear P7 O7 LV hcs
      obtain ⟨cr_0, cr_1, cr_2, cr_3, cr_4, cr_5, cr_6⟩ := Br_7.out.k7
      obtain ⟨fr_0, fr_1, fr_2, fr_3, fr_4, fr_5, fr_6⟩ := Br_7.out.f7
      go_wp2_with fail
      have P8' := Lib.hid (P7'.out.own (b := w.heap.size) (by omega) 0 (.int .i64 kk))
      have O8' := Lib.hid (O7'.out.own (b := w.heap.size) (by omega) 0 (.int .i64 kk))
      have Br_8 : Hid (Bx _ _ _ #[.int .i64 kk, .string ⟨#[]⟩, .slice none 0 0, .string ⟨#[]⟩, .string ⟨#[]⟩, .int .i64 0, .slice none 0 0]) := Br_7.out.set 0 (.int .i64 kk)
      have LL0 := Lib.hid (LL.out.set (b := w.heap.size) (i := 0) (v := .int .i64 kk) (by omega))
      have P9' := Lib.hid (P8'.out.own (b := w.heap.size) (by omega) 1 (.string (ofL fr)))
      have O9' := Lib.hid (O8'.out.own (b := w.heap.size) (by omega) 1 (.string (ofL fr)))
      have Br_9 : Hid (Bx _ _ _ #[.int .i64 kk, .string (ofL fr), .slice none 0 0, .string ⟨#[]⟩, .string ⟨#[]⟩, .int .i64 0, .slice none 0 0]) := Br_8.out.set 1 (.string (ofL fr))
      have LL1 := Lib.hid (LL0.out.set (b := w.heap.size) (i := 1) (v := .string (ofL fr)) (by omega))
      have P10' := Lib.hid (P9'.out.own (b := w.heap.size) (by omega) 2 (.slice A m1 c1))
      have O10' := Lib.hid (O9'.out.own (b := w.heap.size) (by omega) 2 (.slice A m1 c1))
      have Br_10 : Hid (Bx _ _ _ #[.int .i64 kk, .string (ofL fr), .slice A m1 c1, .string ⟨#[]⟩, .string ⟨#[]⟩, .int .i64 0, .slice none 0 0]) := Br_9.out.set 2 (.slice A m1 c1)
      have LL2 := Lib.hid (LL1.out.set (b := w.heap.size) (i := 2) (v := .slice A m1 c1) (by omega))
      have P11' := Lib.hid (P10'.out.own (b := w.heap.size) (by omega) 3 (.string (ofL nm)))
      have O11' := Lib.hid (O10'.out.own (b := w.heap.size) (by omega) 3 (.string (ofL nm)))
      have Br_11 : Hid (Bx _ _ _ #[.int .i64 kk, .string (ofL fr), .slice A m1 c1, .string (ofL nm), .string ⟨#[]⟩, .int .i64 0, .slice none 0 0]) := Br_10.out.set 3 (.string (ofL nm))
      have LL3 := Lib.hid (LL2.out.set (b := w.heap.size) (i := 3) (v := .string (ofL nm)) (by omega))
      have P12' := Lib.hid (P11'.out.own (b := w.heap.size) (by omega) 4 (.string (ofL al)))
      have O12' := Lib.hid (O11'.out.own (b := w.heap.size) (by omega) 4 (.string (ofL al)))
      have Br_12 : Hid (Bx _ _ _ #[.int .i64 kk, .string (ofL fr), .slice A m1 c1, .string (ofL nm), .string (ofL al), .int .i64 0, .slice none 0 0]) := Br_11.out.set 4 (.string (ofL al))
      have LL4 := Lib.hid (LL3.out.set (b := w.heap.size) (i := 4) (v := .string (ofL al)) (by omega))
      have P13' := Lib.hid (P12'.out.own (b := w.heap.size) (by omega) 5 (.int .i64 tk))
      have O13' := Lib.hid (O12'.out.own (b := w.heap.size) (by omega) 5 (.int .i64 tk))
      have Br_13 : Hid (Bx _ _ _ #[.int .i64 kk, .string (ofL fr), .slice A m1 c1, .string (ofL nm), .string (ofL al), .int .i64 tk, .slice none 0 0]) := Br_12.out.set 5 (.int .i64 tk)
      have LL5 := Lib.hid (LL4.out.set (b := w.heap.size) (i := 5) (v := .int .i64 tk) (by omega))
      have P14' := Lib.hid (P13'.out.own (b := w.heap.size) (by omega) 6 (.slice A2 m2 c2))
      have O14' := Lib.hid (O13'.out.own (b := w.heap.size) (by omega) 6 (.slice A2 m2 c2))
      have Br_14 : Hid (Bx _ _ _ #[.int .i64 kk, .string (ofL fr), .slice A m1 c1, .string (ofL nm), .string (ofL al), .int .i64 tk, .slice A2 m2 c2]) := Br_13.out.set 6 (.slice A2 m2 c2)
      have LL6 := Lib.hid (LL5.out.set (b := w.heap.size) (i := 6) (v := .slice A2 m2 c2) (by omega))
      refine bodyPost_ret (v := .agg #[.int .i64 kk, .string (ofL fr), .slice A m1 c1, .string (ofL nm), .string (ofL al), .int .i64 tk, .slice A2 m2 c2]) (bx_ret Br_14.out Tryz.results198 _ rfl Tryz.underlying70 rfl (by kernel_rfl)) rfl ?_
      exact ⟨_, rfl, LL6.out.from (by omega), P14'.out, O14'.out⟩
end
end Go.Proofs.YtekpefcggikcbaaGreatDoor
