/- Layer 10: the walk of SyntaxParts. -/
import Derived.Test.YtekpefcggikcbaaGreatDoorSyPw0
namespace Go.Proofs.YtekpefcggikcbaaGreatDoor
open Go.RowKit

section
variable {w w' : World}
set_option maxRecDepth 20000 in
set_option maxHeartbeats 8000000 in
theorem syntaxparts_walk (ht : Tb w) (hg : gT < w.heap.size) (la lb : Bs) :
    Calls Tryz.prog 7 #[.string (ofL la), .string (ofL lb)] w fun e w' => e = .returned (.bool true) ∧ Below w.heap.size w w' := by
  have HT := Lib.hid ht
  have HG := Lib.hid hg
  obtain ⟨a, ha⟩ : ∃ s, s = ofL la := ⟨_, rfl⟩
  obtain ⟨b, hb⟩ : ∃ s, s = ofL lb := ⟨_, rfl⟩
  have haz : a.size = la.length := by rw [ha, ofL_size]
  have hbz : b.size = lb.length := by rw [hb, ofL_size]
  rw [← ha, ← hb]
  have HA := Lib.hid ha
  have HB := Lib.hid hb
  have HAZ := Lib.hid haz
  have HBZ := Lib.hid hbz
  clear ht hg ha hb
  by_cases h8 : la.length ≤ 1500
  rotate_left
  · have hc : (1500 : Int) < (a.size : Int) := by omega
    clear haz hbz h8
    go_enter Tryz.func7, Tryz.ntmps7
    go_wp2_with fail
    refine (awake_any HT.out HG.out).mono ?_; rintro e w3 ⟨rfl, hb3⟩
    have B3 := Lib.hid hb3
    clear hb3
    go_wp2_with fail
    refine (awake_any (HT.out.below B3.out) (Nat.lt_of_lt_of_le HG.out B3.out.size)).mono ?_; rintro e w4 ⟨rfl, hb4⟩
    have B4 := Lib.hid (B3.out.trans (hb4.mono B3.out.size))
    clear hb4
    go_wp2_with fail
    go_ret
    exact ⟨rfl, B4.out⟩
  have hc1 : ¬ (1500 : Int) < (a.size : Int) := by omega
  by_cases h9 : lb.length ≤ 1500
  rotate_left
  · have hc : (1500 : Int) < (b.size : Int) := by omega
    clear haz hbz h8 h9
    go_enter Tryz.func7, Tryz.ntmps7
    go_wp2_with fail
    refine (awake_any HT.out HG.out).mono ?_; rintro e w3 ⟨rfl, hb3⟩
    have B3 := Lib.hid hb3
    clear hb3
    go_wp2_with fail
    refine (awake_any (HT.out.below B3.out) (Nat.lt_of_lt_of_le HG.out B3.out.size)).mono ?_; rintro e w4 ⟨rfl, hb4⟩
    have B4 := Lib.hid (B3.out.trans (hb4.mono B3.out.size))
    clear hb4
    go_wp2_with fail
    go_ret
    exact ⟨rfl, B4.out⟩
  have hc2 : ¬ (1500 : Int) < (b.size : Int) := by omega
  have H8 := Lib.hid h8
  have H9 := Lib.hid h9
  have ha15 : a.size ≤ 1500 := by omega
  have hb15 : b.size ≤ 1500 := by omega
  clear haz hbz h8 h9
  obtain ⟨l, x, e1, hp⟩ : ∃ ps a x, parseB la = (ps, a, x) := ⟨_, _, _, rfl⟩
  obtain ⟨m, y, e2, hq⟩ : ∃ ps a x, parseB lb = (ps, a, x) := ⟨_, _, _, rfl⟩
  have HP := Lib.hid hp
  have HQ := Lib.hid hq
  clear hp hq
  go_enter Tryz.func7, Tryz.ntmps7
  go_wp2_with fail
  refine (awake_any HT.out HG.out).mono ?_; rintro e w3 ⟨rfl, hb3⟩
  have B3 := Lib.hid hb3
  clear hb3
  go_wp2_with fail
  have hpc := parse_any (HT.out.below B3.out) (Nat.lt_of_lt_of_le HG.out B3.out.size) la
  rw [HP.out, ← HA.out] at hpc
  refine hpc.mono ?_; rintro e w4 ⟨v4, rfl, L4, hb4⟩
  obtain ⟨A4, c4, rfl⟩ := lies_len L4 (by decide) (dPs_len l)
  have B4 := Lib.hid (B3.out.trans (hb4.mono B3.out.size))
  have K4 := Lib.hid (show Lies w4 (fun k => w.heap.size ≤ k ∧ k < w4.heap.size) _ _ from L4.mono fun k hk hS => ⟨Nat.le_trans B3.out.size hS, hk⟩)
  clear hb4 L4 hpc
  go_wp2_with fail
  have hpc := parse_any (HT.out.below B4.out) (Nat.lt_of_lt_of_le HG.out B4.out.size) lb
  rw [HQ.out, ← HB.out] at hpc
  refine hpc.mono ?_; rintro e w5 ⟨v5, rfl, L5, hb5⟩
  obtain ⟨A5, c5, rfl⟩ := lies_len L5 (by decide) (dPs_len m)
  have B5 := Lib.hid (B4.out.trans (hb5.mono B4.out.size))
  have K5 := Lib.hid (show Lies w5 (fun k => w.heap.size ≤ k ∧ k < w5.heap.size) _ _ from L5.mono fun k hk hS => ⟨Nat.le_trans B4.out.size hS, hk⟩)
  have J5 := Lib.hid (show Lies w5 (fun k => w.heap.size ≤ k ∧ k < w5.heap.size) _ _ from (K4.out.belowT hb5).mono fun k hk hS => ⟨hS.1, hk⟩)
  clear hb5 L5 hpc
  by_cases hx1 : e1 = 0
  rotate_left
  · have e0 : ¬ e1 = 0 := hx1
    clear hx1
    go_wp2_with fail
    go_ret
    exact ⟨rfl, B5.out⟩
  by_cases hx2 : e2 = 0
  rotate_left
  · have e0 : ¬ e2 = 0 := hx2
    subst hx1
    clear hx2
    go_wp2_with fail
    go_ret
    exact ⟨rfl, B5.out⟩
  subst hx1
  subst hx2
  obtain ⟨hvl, hvm, hlaw⟩ := parts_law H8.out H9.out HP.out HQ.out
  have HVL := Lib.hid hvl
  have HVM := Lib.hid hvm
  obtain ⟨T, hT⟩ : ∃ T, a ++ (⟨#[10]⟩ : ByteArray) ++ b = T := ⟨_, rfl⟩
  have HTT := Lib.hid hT
  have HTL := Lib.hid (show T = ofL (la ++ 10 :: lb) by
    rw [← hT, HA.out, HB.out, show (⟨#[10]⟩ : ByteArray) = ofL [10] from rfl, ofL_append, ofL_append, List.append_assoc]
    rfl)
  have HLAW := Lib.hid hlaw
  obtain ⟨hgl, hll⟩ := vB_gq hvl
  obtain ⟨hgm, hlm⟩ := vB_gq hvm
  have HGL := Lib.hid hgl
  have HGM := Lib.hid hgm
  have hcl : (canonB l).length ≤ 8000 := by unfold vB at hvl; rw [Bool.and_eq_true, decide_eq_true_eq] at hvl; exact hvl.2
  have hcm : (canonB m).length ≤ 8000 := by unfold vB at hvm; rw [Bool.and_eq_true, decide_eq_true_eq] at hvm; exact hvm.2
  clear hvl hvm hT hlaw hgl hgm
  obtain ⟨p, hpl⟩ : ∃ s, s = ofL (canonB l) := ⟨_, rfl⟩
  obtain ⟨q, hqm⟩ : ∃ s, s = ofL (canonB m) := ⟨_, rfl⟩
  have hpz : p.size = (canonB l).length := by rw [hpl, ofL_size]
  have hqz : q.size = (canonB m).length := by rw [hqm, ofL_size]
  have HPL := Lib.hid hpl
  have HQM := Lib.hid hqm
  clear hpl hqm
  by_cases hlim : l.length + m.length ≤ 10 ∧ (canonB l).length + (canonB m).length ≤ 8000
  · have HPC := Lib.hid (HLAW.out.trans (if_pos hlim))
    have hn1 : ¬ (10 : Int) < (l.length : Int) + (m.length : Int) := by omega
    have hn2 : ¬ (8000 : Int) < (p.size : Int) + (q.size : Int) := by omega
    clear hcl hcm hpz hqz hlim
    go_wp2_with fail
    rw [HTT.out]
    have hpc := parse_any (HT.out.below B5.out) (Nat.lt_of_lt_of_le HG.out B5.out.size) (la ++ 10 :: lb)
    rw [HPC.out, ← HTL.out] at hpc
    refine hpc.mono ?_; rintro e w6 ⟨v6, rfl, L6, hb6⟩
    obtain ⟨A6, c6, rfl⟩ := lies_len L6 (by decide) (dPs_len (l ++ m))
    have B6 := Lib.hid (B5.out.trans (hb6.mono B5.out.size))
    have K6 := Lib.hid (show Lies w6 (fun k => w.heap.size ≤ k ∧ k < w6.heap.size) _ _ from (K5.out.belowT hb6).mono fun k hk hS => ⟨hS.1, hk⟩)
    have J6 := Lib.hid (show Lies w6 (fun k => w.heap.size ≤ k ∧ k < w6.heap.size) _ _ from (J5.out.belowT hb6).mono fun k hk hS => ⟨hS.1, hk⟩)
    have M6 := Lib.hid (show Lies w6 (fun k => w.heap.size ≤ k ∧ k < w6.heap.size) _ _ from L6.mono fun k hk hS => ⟨Nat.le_trans B5.out.size hS, hk⟩)
    clear hb6 L6 hpc
    obtain ⟨N, hN⟩ : ∃ N, N = (l ++ m).length := ⟨_, rfl⟩
    rw [← hN] at M6 ⊢
    have HN := Lib.hid hN
    clear hN
    go_wp2_with fail
    refine (print_any (HT.out.below B6.out) (Nat.lt_of_lt_of_le HG.out B6.out.size) l _ J6.out).mono ?_
    rintro e w7 ⟨rfl, hb7⟩
    rw [if_pos HVL.out, if_pos HVL.out, ← HPL.out]
    have B7 := Lib.hid (B6.out.trans (hb7.mono B6.out.size))
    have K7 := Lib.hid (show Lies w7 (fun k => w.heap.size ≤ k ∧ k < w7.heap.size) _ _ from (K6.out.belowT hb7).mono fun k hk hS => ⟨hS.1, hk⟩)
    have J7 := Lib.hid (show Lies w7 (fun k => w.heap.size ≤ k ∧ k < w7.heap.size) _ _ from (J6.out.belowT hb7).mono fun k hk hS => ⟨hS.1, hk⟩)
    have M7 := Lib.hid (show Lies w7 (fun k => w.heap.size ≤ k ∧ k < w7.heap.size) _ _ from (M6.out.belowT hb7).mono fun k hk hS => ⟨hS.1, hk⟩)
    clear hb7
    go_wp2_with fail
    refine (print_any (HT.out.below B7.out) (Nat.lt_of_lt_of_le HG.out B7.out.size) m _ K7.out).mono ?_
    rintro e w8 ⟨rfl, hb8⟩
    rw [if_pos HVM.out, if_pos HVM.out, ← HQM.out]
    have B8 := Lib.hid (B7.out.trans (hb8.mono B7.out.size))
    have K8 := Lib.hid (show Lies w8 (fun k => w.heap.size ≤ k ∧ k < w8.heap.size) _ _ from (K7.out.belowT hb8).mono fun k hk hS => ⟨hS.1, hk⟩)
    have J8 := Lib.hid (show Lies w8 (fun k => w.heap.size ≤ k ∧ k < w8.heap.size) _ _ from (J7.out.belowT hb8).mono fun k hk hS => ⟨hS.1, hk⟩)
    have M8 := Lib.hid (show Lies w8 (fun k => w.heap.size ≤ k ∧ k < w8.heap.size) _ _ from (M7.out.belowT hb8).mono fun k hk hS => ⟨hS.1, hk⟩)
    clear hb8
    have hz8 := B8.out.size
    have BE := Lib.hid (Bld.empty w8 w.heap.size 59 4 hz8)
    have K9 := Lib.hid (show Lies (w8.alloc (.cells #[] 59)) (fun k => w.heap.size ≤ k ∧ k < w8.heap.size) _ _ from K8.out.keep (by simp) fun k hk _ => Below.heap_alloc w8 _ k hk)
    have J9 := Lib.hid (show Lies (w8.alloc (.cells #[] 59)) (fun k => w.heap.size ≤ k ∧ k < w8.heap.size) _ _ from J8.out.keep (by simp) fun k hk _ => Below.heap_alloc w8 _ k hk)
    have M9 := Lib.hid (show Lies (w8.alloc (.cells #[] 59)) (fun k => w.heap.size ≤ k ∧ k < w8.heap.size) _ _ from M8.out.keep (by simp) fun k hk _ => Below.heap_alloc w8 _ k hk)
    have BB9 := Lib.hid (show Below w.heap.size w (w8.alloc (.cells #[] 59)) from B8.out.alloc hz8 _)
    go_wp2_with (first
      | (at_builtin; refine appW (by simp [Region.wanted, yielded]) (.tmp 90) (.tmp 91) 23 rfl 59 _ 4 88 info_prot rfl (by decide) Tryz.underlying23 w.heap.size v9 l.length (l.flatMap dP) (m.flatMap dP) rfl HB9.out _ m.length rfl (KX.out.mono fun k hk hS => ⟨hS.1, fun e => by have h2 : k < w8.heap.size := hS.2; have := HF9.out k e; omega⟩) (dPs_len m) (by omega) BB10.out.size (by decide) ?_
         intro v10 w10 hB10 hg10 hf10
         have HB10 := Lib.hid hB10
         have HG10 := Lib.hid hg10
         clear hB10 hg10 hf10)
      | (at_builtin; go_loud (refine appW (by simp [Region.wanted, yielded]) (.tmp 88) (.tmp 89) 23 rfl 59 _ 4 88 info_prot rfl (by decide) Tryz.underlying23 w.heap.size (.slice (some ⟨w8.heap.size, 0, none⟩) 0 0) 0 [] (l.flatMap dP) rfl BE.out _ l.length rfl (J9.out.mono fun k hk hS => ⟨hS.1, fun e => by have h2 : k < w8.heap.size := hS.2; simp [Value.ownBlock] at e; omega⟩) (dPs_len l) (by omega) BB9.out.size (by decide) ?_)
         intro v9 w9 hB9 hg9 hf9
         have HF9 := Lib.hid (show ∀ b, v9.ownBlock = some b → w8.heap.size ≤ b from fun b hb => by
           rcases hf9 b hb with h | h
           · simp [Value.ownBlock] at h; omega
           · simp at h; omega)
         have HB9 := Lib.hid (show Bld w9 w.heap.size 59 4 v9 l.length (l.flatMap dP) by simpa using hB9)
         have KX := Lib.hid (K9.out.grown hg9 (fun k h => h.2) fun b hb => by simp [Value.ownBlock] at hb; omega)
         have MX := Lib.hid (M9.out.grown hg9 (fun k h => h.2) fun b hb => by simp [Value.ownBlock] at hb; omega)
         have BB10 := Lib.hid (BB9.out.trans (grown_below BE.out hg9 BB9.out.size))
         clear hB9 hg9 hf9))
    have MY := Lib.hid (MX.out.grown HG10.out (fun k h => h.2) HF9.out)
    have BB11 := Lib.hid (BB10.out.trans (grown_below HB9.out HG10.out BB10.out.size))
    have R10 := Lib.hid (show Lies w10 (fun _ => True) v10 (.s 4 ((l ++ m).flatMap dP)) by rw [List.flatMap_append]; exact HB10.out.lies.mono fun _ _ _ => trivial)
    refine (equal_any (l ++ m) (l ++ m) _ _ (MY.out.mono fun _ _ _ => trivial) R10.out (fun p hp => (List.mem_append.1 hp).elim (HGL.out p) (HGM.out p)) (fun p hp => (List.mem_append.1 hp).elim (HGL.out p) (HGM.out p)) (by rw [List.length_append]; omega)).mono ?_
    rintro e w11 ⟨rfl, hb11⟩
    rw [eqL_prw.2 rfl]
    have BB12 := Lib.hid (BB11.out.trans (hb11.mono BB11.out.size))
    clear hb11
    go_wp2_with fail
    go_ret
    exact ⟨rfl, BB12.out⟩
  · have HPC := Lib.hid (HLAW.out.trans (if_neg hlim))
    have HLIM := Lib.hid hlim
    clear hlim
    go_wp2_with fail
    rw [HTT.out]
    have hpc := parse_any (HT.out.below B5.out) (Nat.lt_of_lt_of_le HG.out B5.out.size) (la ++ 10 :: lb)
    rw [HPC.out, ← HTL.out] at hpc
    refine hpc.mono ?_; rintro e w6 ⟨v6, rfl, L6, hb6⟩
    obtain ⟨A6, n6, c6, rfl, -⟩ := L6.slc
    have B6 := Lib.hid (B5.out.trans (hb6.mono B5.out.size))
    have K6 := Lib.hid (show Lies w6 (fun k => w.heap.size ≤ k ∧ k < w6.heap.size) _ _ from (K5.out.belowT hb6).mono fun k hk hS => ⟨hS.1, hk⟩)
    have J6 := Lib.hid (show Lies w6 (fun k => w.heap.size ≤ k ∧ k < w6.heap.size) _ _ from (J5.out.belowT hb6).mono fun k hk hS => ⟨hS.1, hk⟩)
    clear hb6 L6 hpc
    go_wp2_with fail
    refine (print_any (HT.out.below B6.out) (Nat.lt_of_lt_of_le HG.out B6.out.size) l _ J6.out).mono ?_
    rintro e w7 ⟨rfl, hb7⟩
    rw [if_pos HVL.out, if_pos HVL.out, ← HPL.out]
    have B7 := Lib.hid (B6.out.trans (hb7.mono B6.out.size))
    have K7 := Lib.hid (show Lies w7 (fun k => w.heap.size ≤ k ∧ k < w7.heap.size) _ _ from (K6.out.belowT hb7).mono fun k hk hS => ⟨hS.1, hk⟩)
    clear hb7
    go_wp2_with fail
    refine (print_any (HT.out.below B7.out) (Nat.lt_of_lt_of_le HG.out B7.out.size) m _ K7.out).mono ?_
    rintro e w8 ⟨rfl, hb8⟩
    rw [if_pos HVM.out, if_pos HVM.out, ← HQM.out]
    have B8 := Lib.hid (B7.out.trans (hb8.mono B7.out.size))
    clear hb8
    by_cases hn1 : 10 < l.length + m.length
    · have hn1' : (10 : Int) < (l.length : Int) + (m.length : Int) := by omega
      have hpz' : p.size ≤ 8000 := by omega
      have hqz' : q.size ≤ 8000 := by omega
      clear hcl hcm hpz hqz hn1
      go_wp2_with fail
      go_ret
      exact ⟨rfl, B8.out⟩
    · have hn2 : (8000 : Int) < (p.size : Int) + (q.size : Int) := by have := HLIM.out; omega
      have hn1' : ¬ (10 : Int) < (l.length : Int) + (m.length : Int) := by omega
      have hpz' : p.size ≤ 8000 := by omega
      have hqz' : q.size ≤ 8000 := by omega
      clear hcl hcm hpz hqz hn1
      go_wp2_with fail
      go_ret
      exact ⟨rfl, B8.out⟩
end
end Go.Proofs.YtekpefcggikcbaaGreatDoor
