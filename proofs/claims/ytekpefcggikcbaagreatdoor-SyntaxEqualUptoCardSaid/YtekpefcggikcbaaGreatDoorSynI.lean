/- Layer 10: the contracts of ticks, block, loop, par: given what items answers where fewer than n tokens are left. -/
import Derived.Test.YtekpefcggikcbaaGreatDoorSynG
import Derived.Test.YtekpefcggikcbaaGreatDoorSynA
namespace Go.Proofs.YtekpefcggikcbaaGreatDoor
open Go.RowKit

section
variable {w w' : World} {g E : Nat} {s : St}
theorem ticksS_no (h : ¬ ((nextT E s).k = 2 ∧ ((nextT E s).v < 1 ∨ 1000 < (nextT E s).v))) : ticksS E s = s := by unfold ticksS; rw [if_neg h]
theorem ticksS_yes (h : (nextT E s).k = 2 ∧ ((nextT E s).v < 1 ∨ 1000 < (nextT E s).v)) : ticksS E s = failS E 2 s := by unfold ticksS; rw [if_pos h]
theorem ticksP_dec : Dec (ticksP E) := fun s => Nat.le_trans (numP_dec _) (by unfold ticksS; split; exact failS_dec 2; exact Nat.le_refl _)
theorem withinP_dec : Dec (withinP E) := (takeP_dec _).bind fun _ => Dec.ite ticksP_dec (Dec.pure _)
/-- items keeps its contract where fewer than n tokens are left. -/
def ItemsOK (g E n : Nat) (p : P (List It)) : Prop := ∀ w s, s.r.length < n → Prs w g E s → Calls Tryz.prog 136 #[.pointer (some ⟨g, 0, none⟩)] w (GotD w g E (p s).2 (dB (p s).1))
theorem it_shape {S : Nat → Prop} {us : List Value} {k tk : Int} {fr nm al : Bs} {to : List Bs} {bl : List (List It)} (h : LiesL w S us (dIt (.mk k fr to nm al tk bl))) :
  ∃ A n c A' n' c', us = [.int .i64 k, .string (ofL fr), .slice A n c, .string (ofL nm), .string (ofL al), .int .i64 tk, .slice A' n' c'] := by
 obtain ⟨hl, h⟩ := h
 unfold dIt at hl h
 match us, hl with
 | [u0, u1, u2, u3, u4, u5, u6], _ =>
  have h0 := (h 0 _ _ rfl rfl).cell_eq
  have h1 := (h 1 _ _ rfl rfl).cell_eq
  obtain ⟨A, n, c, h2, -⟩ := (h 2 _ _ rfl rfl).slc
  have h3 := (h 3 _ _ rfl rfl).cell_eq
  have h4 := (h 4 _ _ rfl rfl).cell_eq
  have h5 := (h 5 _ _ rfl rfl).cell_eq
  obtain ⟨A', n', c', h6, -⟩ := (h 6 _ _ rfl rfl).slc
  subst h0; subst h1; subst h2; subst h3; subst h4; subst h5; subst h6
  exact ⟨A, n, c, A', n', c', rfl⟩
theorem LiesL.only {g : Nat} {S : Nat → Prop} {us : List Value} {ds : List D} (h : LiesL w S us ds) (ho : Only g w w') (hg : ¬ S g) : LiesL w' S us ds := ⟨h.1, fun i u d hu hd => (h.2 i u d hu hd).only ho hg⟩
theorem LiesL.set {b i : Nat} {v : Value} {S : Nat → Prop} {us : List Value} {ds : List D} (h : LiesL w S us ds) (hb : ¬ S b) : LiesL (w.setCell ⟨b, i, none⟩ v) S us ds := ⟨h.1, fun j u d hu hd => (h.2 j u d hu hd).set hb⟩
theorem LiesL.from {a b : Nat} {us : List Value} {ds : List D} (h : LiesL w (fun k => b ≤ k) us ds) (hab : a ≤ b) : LiesL w (fun k => a ≤ k) us ds := ⟨h.1, fun j u d hu hd => (h.2 j u d hu hd).from hab⟩
theorem lit_lies {b e : Nat} {v : Value} {d : D} (h : Lies w (fun k => b ≤ k) v d) (hb : b ≤ w.heap.size) : Lies (w.alloc (.cells #[v] e)) (fun k => b ≤ k) (.slice (some ⟨w.heap.size, 0, none⟩) 1 1) (.s 1 [d]) :=
 (Bld.lit w e #[v] [d] 1 rfl (LiesL.cons h (LiesL.nil _ _)) hb).lies
set_option maxRecDepth 20000 in
set_option maxHeartbeats 800000 in
theorem pticks_any (h : Prs w g E s) : Calls Tryz.prog 246 #[.pointer (some ⟨g, 0, none⟩)] w (Got w g E (ticksP E s).2 (.int .i64 (ticksP E s).1)) := by
 obtain ⟨t, ht⟩ : ∃ t, nextT E s = t := ⟨_, rfl⟩
 have HT := Lib.hid ht
 obtain ⟨s1, hs1⟩ : ∃ s1, ticksS E s = s1 := ⟨_, rfl⟩
 have HS1 := Lib.hid hs1
 have HR := Lib.hid (show ticksP E s = numP E s1 by unfold ticksP; rw [hs1])
 rw [HR.out]
 have H := Lib.hid h
 have hlt := h.lt
 have HO := Lib.hid (Only.refl g w)
 by_cases hk : t.k = 2
 ·by_cases h1 : t.v < 1
  ·have e4 : ((t.k : Int) == 2) = true := by simp; omega
   have e5 : (t.v : Int) < 1 := by omega
   have HF := Lib.hid (show failS E 2 s = s1 by rw [← hs1, ticksS_yes]; rw [ht]; omega)
   clear h ht hs1 hk h1
   go_enter Tryz.func246, Tryz.ntmps246
   go_wp2_with fail
   refine (pnext_any H.out).mono ?_; rintro e w1 ⟨rfl, hb1⟩
   rw [HT.out]
   unfold tokA
   have O1 := (Only.refl g _).below hb1
   have P1 := H.out.below hb1 H.out.lt
   have P1' := Lib.hid P1
   have O1' := Lib.hid (HO.out.trans O1)
   have hz1 : w.heap.size ≤ w1.heap.size := O1.size
   clear P1 O1 hb1
   have P2' : Hid (Prs ((w1).alloc (.cells #[.int .i64 (t.k : Int), .string (ofL t.t), .int .i64 (t.v : Int), .int .i64 (t.p : Int)] 48)) g E _) := P1'.out.alloc _
   have O2' : Hid (Only g w ((w1).alloc (.cells #[.int .i64 (t.k : Int), .string (ofL t.t), .int .i64 (t.v : Int), .int .i64 (t.p : Int)] 48))) := O1'.out.alloc _
   have Bt_2 : Hid (Bx ((w1).alloc (.cells #[.int .i64 (t.k : Int), .string (ofL t.t), .int .i64 (t.v : Int), .int .i64 (t.p : Int)] 48)) (w1.heap.size) 48 #[.int .i64 (t.k : Int), .string (ofL t.t), .int .i64 (t.v : Int), .int .i64 (t.p : Int)]) := Bx.new2 (rfl)
   obtain ⟨ct_0, ct_1, ct_2, ct_3⟩ := Bt_2.out.k4
   obtain ⟨ft_0, ft_1, ft_2, ft_3⟩ := Bt_2.out.f4
   go_wp2_with fail
   refine (pfail_any P2'.out 2 (by omega)).mono ?_; rintro e w3 ⟨rfl, P3, O3⟩
   rw [HF.out] at P3
   have P3' := Lib.hid P3
   have O3' := Lib.hid (O2'.out.trans O3)
   have Bt_3 := Lib.hid (Bt_2.out.only O3 (by omega))
   have hz3 : w1.heap.size + 1 ≤ w3.heap.size := by have := O3.size; simp only [size_alloc] at this; exact this
   clear P3 O3
   go_wp2_with fail
   refine (pnumber_any P3'.out).mono ?_; rintro e w4 ⟨rfl, P4, O4⟩
   have P4' := Lib.hid P4
   have O4' := Lib.hid (O3'.out.trans O4)
   have Bt_4 := Lib.hid (Bt_3.out.only O4 (by omega))
   have hz4 : w3.heap.size ≤ w4.heap.size := O4.size
   clear P4 O4
   go_wp2_with fail
   go_ret
   exact ⟨by rfl, P4'.out, O4'.out⟩
  ·by_cases h2 : 1000 < t.v
   ·have e4 : ((t.k : Int) == 2) = true := by simp; omega
    have e5 : ¬ (t.v : Int) < 1 := by omega
    have e6 : 1000 < (t.v : Int) := by omega
    have HF := Lib.hid (show failS E 2 s = s1 by rw [← hs1, ticksS_yes]; rw [ht]; omega)
    clear h ht hs1 hk h1 h2
    go_enter Tryz.func246, Tryz.ntmps246
    go_wp2_with fail
    refine (pnext_any H.out).mono ?_; rintro e w1 ⟨rfl, hb1⟩
    rw [HT.out]
    unfold tokA
    have O1 := (Only.refl g _).below hb1
    have P1 := H.out.below hb1 H.out.lt
    have P1' := Lib.hid P1
    have O1' := Lib.hid (HO.out.trans O1)
    have hz1 : w.heap.size ≤ w1.heap.size := O1.size
    clear P1 O1 hb1
    have P2' : Hid (Prs ((w1).alloc (.cells #[.int .i64 (t.k : Int), .string (ofL t.t), .int .i64 (t.v : Int), .int .i64 (t.p : Int)] 48)) g E _) := P1'.out.alloc _
    have O2' : Hid (Only g w ((w1).alloc (.cells #[.int .i64 (t.k : Int), .string (ofL t.t), .int .i64 (t.v : Int), .int .i64 (t.p : Int)] 48))) := O1'.out.alloc _
    have Bt_2 : Hid (Bx ((w1).alloc (.cells #[.int .i64 (t.k : Int), .string (ofL t.t), .int .i64 (t.v : Int), .int .i64 (t.p : Int)] 48)) (w1.heap.size) 48 #[.int .i64 (t.k : Int), .string (ofL t.t), .int .i64 (t.v : Int), .int .i64 (t.p : Int)]) := Bx.new2 (rfl)
    obtain ⟨ct_0, ct_1, ct_2, ct_3⟩ := Bt_2.out.k4
    obtain ⟨ft_0, ft_1, ft_2, ft_3⟩ := Bt_2.out.f4
    go_wp2_with fail
    refine (pfail_any P2'.out 2 (by omega)).mono ?_; rintro e w3 ⟨rfl, P3, O3⟩
    rw [HF.out] at P3
    have P3' := Lib.hid P3
    have O3' := Lib.hid (O2'.out.trans O3)
    have Bt_3 := Lib.hid (Bt_2.out.only O3 (by omega))
    have hz3 : w1.heap.size + 1 ≤ w3.heap.size := by have := O3.size; simp only [size_alloc] at this; exact this
    clear P3 O3
    go_wp2_with fail
    refine (pnumber_any P3'.out).mono ?_; rintro e w4 ⟨rfl, P4, O4⟩
    have P4' := Lib.hid P4
    have O4' := Lib.hid (O3'.out.trans O4)
    have Bt_4 := Lib.hid (Bt_3.out.only O4 (by omega))
    have hz4 : w3.heap.size ≤ w4.heap.size := O4.size
    clear P4 O4
    go_wp2_with fail
    go_ret
    exact ⟨by rfl, P4'.out, O4'.out⟩
   ·have e4 : ((t.k : Int) == 2) = true := by simp; omega
    have e5 : ¬ (t.v : Int) < 1 := by omega
    have e6 : ¬ 1000 < (t.v : Int) := by omega
    have HF := Lib.hid (show s = s1 by rw [← hs1, ticksS_no]; rw [ht]; omega)
    clear h ht hs1 hk h1 h2
    go_enter Tryz.func246, Tryz.ntmps246
    go_wp2_with fail
    refine (pnext_any H.out).mono ?_; rintro e w1 ⟨rfl, hb1⟩
    rw [HT.out]
    unfold tokA
    have O1 := (Only.refl g _).below hb1
    have P1 := H.out.below hb1 H.out.lt
    have P1' := Lib.hid P1
    have O1' := Lib.hid (HO.out.trans O1)
    have hz1 : w.heap.size ≤ w1.heap.size := O1.size
    clear P1 O1 hb1
    have P2' : Hid (Prs ((w1).alloc (.cells #[.int .i64 (t.k : Int), .string (ofL t.t), .int .i64 (t.v : Int), .int .i64 (t.p : Int)] 48)) g E _) := P1'.out.alloc _
    have O2' : Hid (Only g w ((w1).alloc (.cells #[.int .i64 (t.k : Int), .string (ofL t.t), .int .i64 (t.v : Int), .int .i64 (t.p : Int)] 48))) := O1'.out.alloc _
    have Bt_2 : Hid (Bx ((w1).alloc (.cells #[.int .i64 (t.k : Int), .string (ofL t.t), .int .i64 (t.v : Int), .int .i64 (t.p : Int)] 48)) (w1.heap.size) 48 #[.int .i64 (t.k : Int), .string (ofL t.t), .int .i64 (t.v : Int), .int .i64 (t.p : Int)]) := Bx.new2 (rfl)
    obtain ⟨ct_0, ct_1, ct_2, ct_3⟩ := Bt_2.out.k4
    obtain ⟨ft_0, ft_1, ft_2, ft_3⟩ := Bt_2.out.f4
    go_wp2_with fail
    have HP := P2'.out
    rw [HF.out] at HP
    have P2'' := Lib.hid HP
    clear HP
    refine (pnumber_any P2''.out).mono ?_; rintro e w3 ⟨rfl, P3, O3⟩
    have P3' := Lib.hid P3
    have O3' := Lib.hid (O2'.out.trans O3)
    have Bt_3 := Lib.hid (Bt_2.out.only O3 (by omega))
    have hz3 : w1.heap.size + 1 ≤ w3.heap.size := by have := O3.size; simp only [size_alloc] at this; exact this
    clear P3 O3
    go_wp2_with fail
    go_ret
    exact ⟨by rfl, P3'.out, O3'.out⟩
 ·have e4 : ((t.k : Int) == 2) = false := by simp; omega
  have HF := Lib.hid (show s = s1 by rw [← hs1, ticksS_no]; rw [ht]; omega)
  clear h ht hs1 hk
  go_enter Tryz.func246, Tryz.ntmps246
  go_wp2_with fail
  refine (pnext_any H.out).mono ?_; rintro e w1 ⟨rfl, hb1⟩
  rw [HT.out]
  unfold tokA
  have O1 := (Only.refl g _).below hb1
  have P1 := H.out.below hb1 H.out.lt
  have P1' := Lib.hid P1
  have O1' := Lib.hid (HO.out.trans O1)
  have hz1 : w.heap.size ≤ w1.heap.size := O1.size
  clear P1 O1 hb1
  have P2' : Hid (Prs ((w1).alloc (.cells #[.int .i64 (t.k : Int), .string (ofL t.t), .int .i64 (t.v : Int), .int .i64 (t.p : Int)] 48)) g E _) := P1'.out.alloc _
  have O2' : Hid (Only g w ((w1).alloc (.cells #[.int .i64 (t.k : Int), .string (ofL t.t), .int .i64 (t.v : Int), .int .i64 (t.p : Int)] 48))) := O1'.out.alloc _
  have Bt_2 : Hid (Bx ((w1).alloc (.cells #[.int .i64 (t.k : Int), .string (ofL t.t), .int .i64 (t.v : Int), .int .i64 (t.p : Int)] 48)) (w1.heap.size) 48 #[.int .i64 (t.k : Int), .string (ofL t.t), .int .i64 (t.v : Int), .int .i64 (t.p : Int)]) := Bx.new2 (rfl)
  obtain ⟨ct_0, ct_1, ct_2, ct_3⟩ := Bt_2.out.k4
  obtain ⟨ft_0, ft_1, ft_2, ft_3⟩ := Bt_2.out.f4
  go_wp2_with fail
  have HP := P2'.out
  rw [HF.out] at HP
  have P2'' := Lib.hid HP
  clear HP
  refine (pnumber_any P2''.out).mono ?_; rintro e w3 ⟨rfl, P3, O3⟩
  have P3' := Lib.hid P3
  have O3' := Lib.hid (O2'.out.trans O3)
  have Bt_3 := Lib.hid (Bt_2.out.only O3 (by omega))
  have hz3 : w1.heap.size + 1 ≤ w3.heap.size := by have := O3.size; simp only [size_alloc] at this; exact this
  clear P3 O3
  go_wp2_with fail
  go_ret
  exact ⟨by rfl, P3'.out, O3'.out⟩
end
section
variable {w w' : World} {g E n : Nat} {s : St} {p : P (List It)}
theorem blockP_dec (hp : Dec p) : Dec (blockP E p) := (expectP_dec _).bind fun _ => hp
theorem elseP_dec (hp : Dec p) (t : Int) (bs : List (List It)) : Dec (elseP E p t bs) := by
 unfold elseP
 exact Dec.ite ((expectP_dec _).bind fun _ => (blockP_dec hp).bind fun _ => Dec.pure _) (Dec.pure _)
set_option maxRecDepth 20000 in
set_option maxHeartbeats 400000 in
theorem pblock_any (HI : ItemsOK g E n p) (h : Prs w g E s) (hn : s.r.length < n) : Calls Tryz.prog 248 #[.pointer (some ⟨g, 0, none⟩)] w (GotD w g E (blockP E p s).2 (dB (blockP E p s).1)) := by
 obtain ⟨s1, hs1⟩ : ∃ s1, (expectP E [123] s).2 = s1 := ⟨_, rfl⟩
 have HS1 := Lib.hid hs1
 have HR := Lib.hid (show blockP E p s = p s1 by subst hs1; rfl)
 rw [HR.out]
 have hn1 : s1.r.length < n := by rw [← hs1]; exact Nat.lt_of_le_of_lt (expectP_dec _ _) hn
 have HN1 := Lib.hid hn1
 have HI2 := Lib.hid HI
 have H := Lib.hid h
 have hlt := h.lt
 have HO := Lib.hid (Only.refl g w)
 clear h hs1 hn hn1 HI
 go_enter Tryz.func248, Tryz.ntmps248
 go_wp2_with fail
 refine (pexpect_any H.out [123]).mono ?_; rintro e w1 ⟨rfl, P1, O1⟩
 rw [HS1.out] at P1
 have P1' := Lib.hid P1
 have O1' := Lib.hid (HO.out.trans O1)
 have hz1 : w.heap.size ≤ w1.heap.size := O1.size
 clear P1 O1
 go_wp2_with fail
 refine (HI2.out _ _ HN1.out P1'.out).mono ?_; rintro e w2 ⟨v, rfl, LV, P2, O2⟩
 obtain ⟨AV, nV, cV, rfl, -⟩ := LV.slc
 have LV_2 := Lib.hid (show Lies w2 (fun k => w1.heap.size ≤ k) (.slice AV nV cV) (dB (p s1).1) from LV)
 have P2' := Lib.hid P2
 have O2' := Lib.hid (O1'.out.trans O2)
 have hz2 : w1.heap.size ≤ w2.heap.size := O2.size
 clear P2 O2 LV
 go_wp2_with fail
 go_ret
 exact ⟨_, rfl, LV_2.out.from (by omega), P2'.out, O2'.out⟩
theorem block_rd (HI : ItemsOK g E n p) (L : Nat) (hL : L < n) : IsRdD 248 g E L (blockP E p) dB :=
 ⟨fun args w => enters_of Tryz.func248 (by kernel_rfl) rfl args w, fun _ _ hl h => pblock_any HI h (by omega)⟩
set_option maxRecDepth 20000 in
set_option maxHeartbeats 800000 in
theorem ploop_any (HI : ItemsOK g E n p) (h : Prs w g E s) (hn : s.r.length < n) : Calls Tryz.prog 227 #[.pointer (some ⟨g, 0, none⟩)] w (GotL w g E (loopP E p s).2 (dIt (loopP E p s).1)) := by
 obtain ⟨s1, hs1⟩ : ∃ s1, (pathP E s).2 = s1 := ⟨_, rfl⟩
 have HS1 := Lib.hid hs1
 obtain ⟨nm, hv1⟩ : ∃ nm, (pathP E s).1 = nm := ⟨_, rfl⟩
 have HV1 := Lib.hid hv1
 obtain ⟨s2, hs2⟩ : ∃ s2, (blockP E p s1).2 = s2 := ⟨_, rfl⟩
 have HS2 := Lib.hid hs2
 obtain ⟨b, hv2⟩ : ∃ b, (blockP E p s1).1 = b := ⟨_, rfl⟩
 have HV2 := Lib.hid hv2
 have HR := Lib.hid (show loopP E p s = (It.mk 3 [] [] nm [] 0 [b], s2) by subst hs1; subst hs2; subst hv1; subst hv2; rfl)
 rw [HR.out]
 have HN1 := Lib.hid (show s1.r.length < n by rw [← hs1]; exact Nat.lt_of_le_of_lt (pathP_dec _) hn)
 have HI2 := Lib.hid HI
 have H := Lib.hid h
 have hlt := h.lt
 have HO := Lib.hid (Only.refl g w)
 clear h hs1 hs2 hv1 hv2 hn HI
 go_enter Tryz.func227, Tryz.ntmps227
 have P1' : Hid (Prs ((w).alloc (.cells #[.int .i64 0, .string ⟨#[]⟩, .slice none 0 0, .string ⟨#[]⟩, .string ⟨#[]⟩, .int .i64 0, .slice none 0 0] 70)) g E _) := H.out.alloc _
 have O1' : Hid (Only g w ((w).alloc (.cells #[.int .i64 0, .string ⟨#[]⟩, .slice none 0 0, .string ⟨#[]⟩, .string ⟨#[]⟩, .int .i64 0, .slice none 0 0] 70))) := HO.out.alloc _
 have Br_1 : Hid (Bx ((w).alloc (.cells #[.int .i64 0, .string ⟨#[]⟩, .slice none 0 0, .string ⟨#[]⟩, .string ⟨#[]⟩, .int .i64 0, .slice none 0 0] 70)) (w.heap.size) 70 #[.int .i64 0, .string ⟨#[]⟩, .slice none 0 0, .string ⟨#[]⟩, .string ⟨#[]⟩, .int .i64 0, .slice none 0 0]) := Bx.new2 (rfl)
 go_wp2_with fail
 refine (ppath_any P1'.out).mono ?_; rintro e w2 ⟨rfl, P2, O2⟩
 rw [HS1.out] at P2
 rw [HV1.out]
 have P2' := Lib.hid P2
 have O2' := Lib.hid (O1'.out.trans O2)
 have Br_2 := Lib.hid (Br_1.out.only O2 (by omega))
 have hz2 : w.heap.size + 1 ≤ w2.heap.size := by have := O2.size; simp only [size_alloc] at this; exact this
 clear P2 O2
 have P3' : Hid (Prs ((w2).alloc (.cells #[.int .i64 3, .string ⟨#[]⟩, .slice none 0 0, .string (ofL nm), .string ⟨#[]⟩, .int .i64 0, .slice none 0 0] 70)) g E _) := P2'.out.alloc _
 have O3' : Hid (Only g w ((w2).alloc (.cells #[.int .i64 3, .string ⟨#[]⟩, .slice none 0 0, .string (ofL nm), .string ⟨#[]⟩, .int .i64 0, .slice none 0 0] 70))) := O2'.out.alloc _
 have Br_3 : Hid (Bx ((w2).alloc (.cells #[.int .i64 3, .string ⟨#[]⟩, .slice none 0 0, .string (ofL nm), .string ⟨#[]⟩, .int .i64 0, .slice none 0 0] 70)) (w.heap.size) _ _) := Br_2.out.alloc _
 have Bx_3 : Hid (Bx ((w2).alloc (.cells #[.int .i64 3, .string ⟨#[]⟩, .slice none 0 0, .string (ofL nm), .string ⟨#[]⟩, .int .i64 0, .slice none 0 0] 70)) (w2.heap.size) 70 #[.int .i64 3, .string ⟨#[]⟩, .slice none 0 0, .string (ofL nm), .string ⟨#[]⟩, .int .i64 0, .slice none 0 0]) := Bx.new2 (rfl)
 go_wp2_with fail
 refine (pblock_any HI2.out P3'.out HN1.out).mono ?_; rintro e w4 ⟨v, rfl, LV, P4, O4⟩
 obtain ⟨AB, nB, cB, rfl, -⟩ := LV.slc
 rw [HV2.out] at LV
 rw [HS2.out] at P4
 have LB_4 := Lib.hid (show Lies w4 (fun k => w2.heap.size + 1 ≤ k) (.slice AB nB cB) (dB b) from by have := LV; simp only [size_alloc] at this; exact this)
 have P4' := Lib.hid P4
 have O4' := Lib.hid (O3'.out.trans O4)
 have Br_4 := Lib.hid (Br_3.out.only O4 (by omega))
 have Bx_4 := Lib.hid (Bx_3.out.only O4 (by omega))
 have hz4 : w2.heap.size + 1 ≤ w4.heap.size := by have := O4.size; simp only [size_alloc] at this; exact this
 clear P4 O4 LV
 have LR := Lib.hid (lit_lies (e := 57) LB_4.out (by omega))
 have P5' : Hid (Prs ((w4).alloc (.cells #[.slice AB nB cB] 57)) g E _) := P4'.out.alloc _
 have O5' : Hid (Only g w ((w4).alloc (.cells #[.slice AB nB cB] 57))) := O4'.out.alloc _
 have Br_5 : Hid (Bx ((w4).alloc (.cells #[.slice AB nB cB] 57)) (w.heap.size) _ _) := Br_4.out.alloc _
 have Bx_5 : Hid (Bx ((w4).alloc (.cells #[.slice AB nB cB] 57)) (w2.heap.size) _ _) := Bx_4.out.alloc _
 obtain ⟨cr_0, cr_1, cr_2, cr_3, cr_4, cr_5, cr_6⟩ := Br_5.out.k7
 obtain ⟨fr_0, fr_1, fr_2, fr_3, fr_4, fr_5, fr_6⟩ := Br_5.out.f7
 obtain ⟨cx_0, cx_1, cx_2, cx_3, cx_4, cx_5, cx_6⟩ := Bx_5.out.k7
 obtain ⟨fx_0, fx_1, fx_2, fx_3, fx_4, fx_5, fx_6⟩ := Bx_5.out.f7
 have P6' := Lib.hid (P5'.out.own (b := w2.heap.size) (by omega) 6 (.slice (some ⟨w4.heap.size, 0, none⟩) 1 1))
 have O6' := Lib.hid (O5'.out.own (b := w2.heap.size) (by omega) 6 (.slice (some ⟨w4.heap.size, 0, none⟩) 1 1))
 have Br_6 := Lib.hid (Br_5.out.other (c := w2.heap.size) (i := 6) (u := .slice (some ⟨w4.heap.size, 0, none⟩) 1 1) (by omega))
 have Bx_6 : Hid (Bx _ _ _ #[.int .i64 3, .string ⟨#[]⟩, .slice none 0 0, .string (ofL nm), .string ⟨#[]⟩, .int .i64 0, .slice (some ⟨w4.heap.size, 0, none⟩) 1 1]) := Bx_5.out.set 6 (.slice (some ⟨w4.heap.size, 0, none⟩) 1 1)
 have LR_6 := Lib.hid (LR.out.set (b := w2.heap.size) (i := 6) (u := .slice (some ⟨w4.heap.size, 0, none⟩) 1 1) (by omega))
 go_wp2_with fail
 have P7' := Lib.hid (P6'.out.own (b := w.heap.size) (by omega) 0 (.int .i64 3))
 have O7' := Lib.hid (O6'.out.own (b := w.heap.size) (by omega) 0 (.int .i64 3))
 have Br_7 : Hid (Bx _ _ _ #[.int .i64 3, .string ⟨#[]⟩, .slice none 0 0, .string ⟨#[]⟩, .string ⟨#[]⟩, .int .i64 0, .slice none 0 0]) := Br_6.out.set 0 (.int .i64 3)
 have Bx_7 := Lib.hid (Bx_6.out.other (c := w.heap.size) (i := 0) (u := .int .i64 3) (by omega))
 have LR_7 := Lib.hid (LR_6.out.set (b := w.heap.size) (i := 0) (u := .int .i64 3) (by omega))
 have P8' := Lib.hid (P7'.out.own (b := w.heap.size) (by omega) 1 (.string ⟨#[]⟩))
 have O8' := Lib.hid (O7'.out.own (b := w.heap.size) (by omega) 1 (.string ⟨#[]⟩))
 have Br_8 : Hid (Bx _ _ _ #[.int .i64 3, .string ⟨#[]⟩, .slice none 0 0, .string ⟨#[]⟩, .string ⟨#[]⟩, .int .i64 0, .slice none 0 0]) := Br_7.out.set 1 (.string ⟨#[]⟩)
 have Bx_8 := Lib.hid (Bx_7.out.other (c := w.heap.size) (i := 1) (u := .string ⟨#[]⟩) (by omega))
 have LR_8 := Lib.hid (LR_7.out.set (b := w.heap.size) (i := 1) (u := .string ⟨#[]⟩) (by omega))
 have P9' := Lib.hid (P8'.out.own (b := w.heap.size) (by omega) 2 (.slice none 0 0))
 have O9' := Lib.hid (O8'.out.own (b := w.heap.size) (by omega) 2 (.slice none 0 0))
 have Br_9 : Hid (Bx _ _ _ #[.int .i64 3, .string ⟨#[]⟩, .slice none 0 0, .string ⟨#[]⟩, .string ⟨#[]⟩, .int .i64 0, .slice none 0 0]) := Br_8.out.set 2 (.slice none 0 0)
 have Bx_9 := Lib.hid (Bx_8.out.other (c := w.heap.size) (i := 2) (u := .slice none 0 0) (by omega))
 have LR_9 := Lib.hid (LR_8.out.set (b := w.heap.size) (i := 2) (u := .slice none 0 0) (by omega))
 have P10' := Lib.hid (P9'.out.own (b := w.heap.size) (by omega) 3 (.string (ofL nm)))
 have O10' := Lib.hid (O9'.out.own (b := w.heap.size) (by omega) 3 (.string (ofL nm)))
 have Br_10 : Hid (Bx _ _ _ #[.int .i64 3, .string ⟨#[]⟩, .slice none 0 0, .string (ofL nm), .string ⟨#[]⟩, .int .i64 0, .slice none 0 0]) := Br_9.out.set 3 (.string (ofL nm))
 have Bx_10 := Lib.hid (Bx_9.out.other (c := w.heap.size) (i := 3) (u := .string (ofL nm)) (by omega))
 have LR_10 := Lib.hid (LR_9.out.set (b := w.heap.size) (i := 3) (u := .string (ofL nm)) (by omega))
 have P11' := Lib.hid (P10'.out.own (b := w.heap.size) (by omega) 4 (.string ⟨#[]⟩))
 have O11' := Lib.hid (O10'.out.own (b := w.heap.size) (by omega) 4 (.string ⟨#[]⟩))
 have Br_11 : Hid (Bx _ _ _ #[.int .i64 3, .string ⟨#[]⟩, .slice none 0 0, .string (ofL nm), .string ⟨#[]⟩, .int .i64 0, .slice none 0 0]) := Br_10.out.set 4 (.string ⟨#[]⟩)
 have Bx_11 := Lib.hid (Bx_10.out.other (c := w.heap.size) (i := 4) (u := .string ⟨#[]⟩) (by omega))
 have LR_11 := Lib.hid (LR_10.out.set (b := w.heap.size) (i := 4) (u := .string ⟨#[]⟩) (by omega))
 have P12' := Lib.hid (P11'.out.own (b := w.heap.size) (by omega) 5 (.int .i64 0))
 have O12' := Lib.hid (O11'.out.own (b := w.heap.size) (by omega) 5 (.int .i64 0))
 have Br_12 : Hid (Bx _ _ _ #[.int .i64 3, .string ⟨#[]⟩, .slice none 0 0, .string (ofL nm), .string ⟨#[]⟩, .int .i64 0, .slice none 0 0]) := Br_11.out.set 5 (.int .i64 0)
 have Bx_12 := Lib.hid (Bx_11.out.other (c := w.heap.size) (i := 5) (u := .int .i64 0) (by omega))
 have LR_12 := Lib.hid (LR_11.out.set (b := w.heap.size) (i := 5) (u := .int .i64 0) (by omega))
 have P13' := Lib.hid (P12'.out.own (b := w.heap.size) (by omega) 6 (.slice (some ⟨w4.heap.size, 0, none⟩) 1 1))
 have O13' := Lib.hid (O12'.out.own (b := w.heap.size) (by omega) 6 (.slice (some ⟨w4.heap.size, 0, none⟩) 1 1))
 have Br_13 : Hid (Bx _ _ _ #[.int .i64 3, .string ⟨#[]⟩, .slice none 0 0, .string (ofL nm), .string ⟨#[]⟩, .int .i64 0, .slice (some ⟨w4.heap.size, 0, none⟩) 1 1]) := Br_12.out.set 6 (.slice (some ⟨w4.heap.size, 0, none⟩) 1 1)
 have Bx_13 := Lib.hid (Bx_12.out.other (c := w.heap.size) (i := 6) (u := .slice (some ⟨w4.heap.size, 0, none⟩) 1 1) (by omega))
 have LR_13 := Lib.hid (LR_12.out.set (b := w.heap.size) (i := 6) (u := .slice (some ⟨w4.heap.size, 0, none⟩) 1 1) (by omega))
 refine bodyPost_ret (v := .agg #[.int .i64 3, .string ⟨#[]⟩, .slice none 0 0, .string (ofL nm), .string ⟨#[]⟩, .int .i64 0, .slice (some ⟨w4.heap.size, 0, none⟩) 1 1]) (bx_ret Br_13.out Tryz.results227 _ rfl Tryz.underlying70 rfl (by kernel_rfl)) rfl ?_
 exact ⟨_, rfl, (LiesL.cons (.c _ rfl) (LiesL.cons (.c _ rfl) (LiesL.cons (.nil _) (LiesL.cons (.c _ rfl) (LiesL.cons (.c _ rfl) (LiesL.cons (.c _ rfl) (LiesL.cons (LR_13.out.from (by omega)) (LiesL.nil _ _)))))))), P13'.out, O13'.out⟩
end
end Go.Proofs.YtekpefcggikcbaaGreatDoor
