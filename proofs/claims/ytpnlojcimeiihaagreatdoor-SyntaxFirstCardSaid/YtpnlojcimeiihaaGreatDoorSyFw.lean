/- Layer 10: the walk of SyntaxFirst. -/
import Derived.Test.YtpnlojcimeiihaaGreatDoorSyFi
import Derived.Test.YtpnlojcimeiihaaGreatDoorMSvW
import Derived.Deep.LoopGhost
namespace Go.Proofs.YtpnlojcimeiihaaGreatDoor
open Go.RowKit

theorem endN_le {ls : Bs} {ts : List Tok} (hf : full ls = (ts, 0, 0)) (h8 : ls.length ≤ 1500) (j : Nat) : endN ts ls.length j ≤ ls.length := by
 have hlx : lxs 0 ls = (ts, 0, 0) := by rw [← full_small (by omega)]; exact hf
 have hpl := lxs_places 0 ls (by rw [hlx])
 rw [hlx] at hpl
 unfold endN
 cases h : ts[j]? with
 | none => exact Nat.le_refl _
 | some t => have := (hpl.1 j t h).2; show t.p ≤ _; omega
def FrRel (W : World) (ts : List Tok) (at_ len gk : Nat) (v11 v12 : Value) (wr : World) : Prop :=
 ∃ j : Nat, j ≤ ts.length ∧ j ≤ gk ∧ v12 = .int .i64 ((j : Int) - 1) ∧ v11 = .int .i64 (endN ts len j : Int) ∧ Hid (∀ t ∈ ts.drop j, at_ < t.p) ∧ wr = W
section
variable {w w' : World}
set_option maxRecDepth 20000 in
set_option maxHeartbeats 8000000 in
theorem syntaxfirst_walk (ht : Tb w) (hg : gT < w.heap.size) (ls lt : Bs) :
  Calls Tryz.prog 8 #[.string (ofL ls), .string (ofL lt)] w fun e w' => e = .returned (.bool true) ∧ Below w.heap.size w w' := by
 have HT := Lib.hid ht
 have HG := Lib.hid hg
 obtain ⟨s, hs⟩ : ∃ s, s = ofL ls := ⟨_, rfl⟩
 obtain ⟨t, hst⟩ : ∃ t, t = ofL lt := ⟨_, rfl⟩
 have hsz : s.size = ls.length := by rw [hs, ofL_size]
 have htz : t.size = lt.length := by rw [hst, ofL_size]
 rw [← hs, ← hst]
 have HS := Lib.hid hs
 have HST := Lib.hid hst
 have HSZ := Lib.hid hsz
 have HTZ := Lib.hid htz
 clear ht hg hs hst
 by_cases h8 : ls.length ≤ 1500
 rotate_left
 ·have hc : (1500 : Int) < (s.size : Int) := by omega
  clear hsz htz h8
  go_enter Tryz.func8, Tryz.ntmps8
  go_wp2_with fail
  refine (awake_any HT.out HG.out).mono ?_; rintro e w3 ⟨rfl, hb3⟩
  have B3 := Lib.hid hb3
  clear hb3
  go_wp2_with fail
  refine (awake_any (HT.out.below B3.out) (Nat.lt_of_lt_of_le HG.out B3.out.size)).mono ?_; rintro e w4 ⟨rfl, hb4⟩
  have B4 := Lib.hid (B3.out.trans (hb4.mono B3.out.size))
  clear hb4
  go_wp2_with fail
  go_ret
  exact ⟨rfl, B4.out⟩
 have hc1 : ¬ (1500 : Int) < (s.size : Int) := by omega
 by_cases h9 : lt.length ≤ 1500
 rotate_left
 ·have hc : (1500 : Int) < (t.size : Int) := by omega
  clear hsz htz h8 h9
  go_enter Tryz.func8, Tryz.ntmps8
  go_wp2_with fail
  refine (awake_any HT.out HG.out).mono ?_; rintro e w3 ⟨rfl, hb3⟩
  have B3 := Lib.hid hb3
  clear hb3
  go_wp2_with fail
  refine (awake_any (HT.out.below B3.out) (Nat.lt_of_lt_of_le HG.out B3.out.size)).mono ?_; rintro e w4 ⟨rfl, hb4⟩
  have B4 := Lib.hid (B3.out.trans (hb4.mono B3.out.size))
  clear hb4
  go_wp2_with fail
  go_ret
  exact ⟨rfl, B4.out⟩
 have hc2 : ¬ (1500 : Int) < (t.size : Int) := by omega
 have H8 := Lib.hid h8
 have H9 := Lib.hid h9
 have hs15 : s.size ≤ 1500 := by omega
 have ht15 : t.size ≤ 1500 := by omega
 clear hsz htz h8 h9
 obtain ⟨ts, a0, x0, hf⟩ : ∃ ts a x, full ls = (ts, a, x) := ⟨_, _, _, rfl⟩
 obtain ⟨ps, at_, f, hp⟩ : ∃ ps a x, parseB ls = (ps, a, x) := ⟨_, _, _, rfl⟩
 have HF := Lib.hid hf
 have HP := Lib.hid hp
 clear hf hp
 go_enter Tryz.func8, Tryz.ntmps8
 go_wp2_with fail
 refine (awake_any HT.out HG.out).mono ?_; rintro e w3 ⟨rfl, hb3⟩
 have B3 := Lib.hid hb3
 clear hb3
 go_wp2_with fail
 refine (toks_at s ls HS.out ts a0 x0 HF.out w3).mono ?_; rintro e w4 ⟨v, rfl, ht4, hb4, -⟩
 obtain ⟨A, c, rfl⟩ := ht4.shape
 have B4 := Lib.hid (B3.out.trans (hb4.mono B3.out.size))
 have K4 := Lib.hid ht4
 clear hb4 ht4
 go_wp2_with fail
 have hpc := parse_any (HT.out.below B4.out) (Nat.lt_of_lt_of_le HG.out B4.out.size) ls
 rw [HP.out, ← HS.out] at hpc
 refine hpc.mono ?_; rintro e w5 ⟨v5, rfl, L5, hb5⟩
 obtain ⟨A5, n5, c5, rfl, -⟩ := L5.slc
 have B5 := Lib.hid (B4.out.trans (hb5.mono B4.out.size))
 have K5 := Lib.hid (K4.out.below hb5)
 clear hb5 L5 hpc
 by_cases hx : x0 = 0
 rotate_left
 ·have e0 : ¬ x0 = 0 := hx
  clear hx
  go_wp2_with fail
  go_ret
  exact ⟨rfl, B5.out⟩
 subst hx
 have HFZ := Lib.hid (show full ls = (ts, 0, 0) by
  have h1 := HF.out
  have h2 := H8.out
  rw [h1]
  rw [full_small (by omega)] at h1
  have h3 := (lxs_bad 0 ls).2 (by rw [h1])
  rw [h1] at h3
  simp only at h3
  rw [h3])
 by_cases hf23 : f = 3 ∨ f = 2
 rotate_left
 ·have e1 : ¬ (f : Int) = 3 := by omega
  have e2 : ¬ (f : Int) = 2 := by omega
  clear hf23
  go_wp2_with fail
  go_ret
  exact ⟨rfl, B5.out⟩
 by_cases hat : at_ < ls.length
 rotate_left
 ·have e3 : s.size ≤ at_ := by have := HSZ.out; omega
  clear hat
  rcases hf23 with rfl | rfl
  ·go_wp2_with fail
   go_ret
   exact ⟨rfl, B5.out⟩
  ·go_wp2_with fail
   go_ret
   exact ⟨rfl, B5.out⟩
 rcases hf23 with rfl | rfl
 ·skip
  have e3 : ¬ s.size ≤ at_ := by have := HSZ.out; omega
  have HAT := Lib.hid hat
  have hlen : ts.length ≤ 1500 := by
   have h1 := HF.out
   have h2 := H8.out
   rw [full_small (by omega)] at h1
   have h3 := lxs_len 0 ls
   rw [h1] at h3
   exact Nat.le_trans h3 h2
  have hw1 : wrap64 ((ts.length : Int) - 1) = (ts.length : Int) - 1 := by unfold wrap64; omega
  clear hat
  go_wp2_with fail
  go_loopg [11, 12] ts.length (fun gk v11 v12 wr => FrRel w5 ts at_ ls.length gk v11 v12 wr)
  case atStart =>
   refine ⟨ts.length, Nat.le_refl _, Nat.le_refl _, ?_, ?_, by unfold Hid; rw [List.drop_length]; intro t ht; simp at ht, rfl⟩
   ·first | rfl | (rw [hw1])
   ·unfold endN
    rw [List.getElem?_eq_none (Nat.le_refl _)]
    show _ = Value.int .i64 ((ls.length : Nat) : Int)
    rw [← HSZ.out]
  case round =>
   obtain ⟨j, hjl, hjg, rfl, rfl, HGT, rfl⟩ := hrel
   have hexit : (j = 0 ∨ ∃ t, ts[j - 1]? = some t ∧ t.p ≤ at_) ∨ ∃ m t, j = m + 1 ∧ ts[m]? = some t ∧ at_ < t.p := by
    cases j with
    | zero => exact .inl (.inl rfl)
    | succ m =>
     have hm : ts[m]? = some ts[m] := List.getElem?_eq_getElem (by omega)
     by_cases h : at_ < (ts[m]'(by omega)).p
     ·exact .inr ⟨m, _, rfl, hm, h⟩
     ·exact .inl (.inr ⟨_, hm, by omega⟩)
   rcases hexit with hle | ⟨m, tk, rfl, htk, hlt⟩
   ·skip
    rcases hle with rfl | ⟨tk, htk, hle⟩
    ·have e1 : ((0 : Nat) : Int) - 1 = -1 := rfl
     rw [e1]
     have hE : endN ts ls.length 0 ≤ s.size := by rw [HSZ.out]; exact endN_le HFZ.out H8.out _
     obtain ⟨E, hEE⟩ : ∃ E, endN ts ls.length 0 = E := ⟨_, rfl⟩
     rw [hEE] at hE ⊢
     have HEE := Lib.hid hEE
     have hsx : (s.extract 0 E).size ≤ 1500 := by simp; omega
     obtain ⟨T, hT⟩ : ∃ T, s.extract 0 E ++ (⟨#[10]⟩ : ByteArray) ++ t = T := ⟨_, rfl⟩
     have HTT := Lib.hid hT
     have HTL := Lib.hid (show T = ofL (ls.take E ++ 10 :: lt) by
      rw [← hT, HS.out, HST.out, ofL_extract, List.drop_zero, Nat.sub_zero, show (⟨#[10]⟩ : ByteArray) = ofL [10] from rfl, ofL_append, ofL_append, List.append_assoc]
      rfl)
     obtain ⟨ts2, a2, x2, hf2⟩ : ∃ ts a x, full (ls.take E ++ 10 :: lt) = (ts, a, x) := ⟨_, _, _, rfl⟩
     have HF2 := Lib.hid hf2
     clear hf2 hT hEE
     go_wp2_with fail
     rw [HTT.out]
     refine (toks_at T _ HTL.out ts2 a2 x2 HF2.out _).mono ?_; rintro e w6 ⟨v6, rfl, ht6, hb6, -⟩
     obtain ⟨A6, c6, rfl⟩ := ht6.shape
     have B6 := Lib.hid (B5.out.trans (hb6.mono B5.out.size))
     clear hb6 ht6
     by_cases hx2 : x2 = 0
     rotate_left
     ·have e0 : ¬ x2 = 0 := hx2
      clear hx2
      go_wp2_with fail
      go_ret
      exact ⟨rfl, B6.out⟩
     subst hx2
     have hfl := first_law H8.out H9.out HFZ.out HP.out (.inl rfl) HAT.out (j := 0) (by omega) HGT.out (.inl rfl) (by rw [HEE.out, HF2.out])
     rw [HEE.out] at hfl
     obtain ⟨qs, hqs⟩ := hfl
     have hpc2 := parse_any (HT.out.below B6.out) (Nat.lt_of_lt_of_le HG.out B6.out.size) (ls.take E ++ 10 :: lt)
     rw [hqs, ← HTL.out] at hpc2
     have HPC2 := Lib.hid hpc2
     clear hqs hpc2
     go_wp2_with fail
     refine HPC2.out.mono ?_; rintro e w7 ⟨v7, rfl, L7, hb7⟩
     obtain ⟨A7, n7, c7, rfl, -⟩ := L7.slc
     have B7 := Lib.hid (B6.out.trans (hb7.mono B6.out.size))
     clear hb7 L7
     go_wp2_with fail
     go_ret
     exact ⟨rfl, B7.out⟩
    ·cases j with
     | zero =>
      have e1 : ((0 : Nat) : Int) - 1 = -1 := rfl
      rw [e1]
      clear htk hle
      have hE : endN ts ls.length 0 ≤ s.size := by rw [HSZ.out]; exact endN_le HFZ.out H8.out _
      obtain ⟨E, hEE⟩ : ∃ E, endN ts ls.length 0 = E := ⟨_, rfl⟩
      rw [hEE] at hE ⊢
      have HEE := Lib.hid hEE
      have hsx : (s.extract 0 E).size ≤ 1500 := by simp; omega
      obtain ⟨T, hT⟩ : ∃ T, s.extract 0 E ++ (⟨#[10]⟩ : ByteArray) ++ t = T := ⟨_, rfl⟩
      have HTT := Lib.hid hT
      have HTL := Lib.hid (show T = ofL (ls.take E ++ 10 :: lt) by
       rw [← hT, HS.out, HST.out, ofL_extract, List.drop_zero, Nat.sub_zero, show (⟨#[10]⟩ : ByteArray) = ofL [10] from rfl, ofL_append, ofL_append, List.append_assoc]
       rfl)
      obtain ⟨ts2, a2, x2, hf2⟩ : ∃ ts a x, full (ls.take E ++ 10 :: lt) = (ts, a, x) := ⟨_, _, _, rfl⟩
      have HF2 := Lib.hid hf2
      clear hf2 hT hEE
      go_wp2_with fail
      rw [HTT.out]
      refine (toks_at T _ HTL.out ts2 a2 x2 HF2.out _).mono ?_; rintro e w6 ⟨v6, rfl, ht6, hb6, -⟩
      obtain ⟨A6, c6, rfl⟩ := ht6.shape
      have B6 := Lib.hid (B5.out.trans (hb6.mono B5.out.size))
      clear hb6 ht6
      by_cases hx2 : x2 = 0
      rotate_left
      ·have e0 : ¬ x2 = 0 := hx2
       clear hx2
       go_wp2_with fail
       go_ret
       exact ⟨rfl, B6.out⟩
      subst hx2
      have hfl := first_law H8.out H9.out HFZ.out HP.out (.inl rfl) HAT.out (j := 0) (by omega) HGT.out (.inl rfl) (by rw [HEE.out, HF2.out])
      rw [HEE.out] at hfl
      obtain ⟨qs, hqs⟩ := hfl
      have hpc2 := parse_any (HT.out.below B6.out) (Nat.lt_of_lt_of_le HG.out B6.out.size) (ls.take E ++ 10 :: lt)
      rw [hqs, ← HTL.out] at hpc2
      have HPC2 := Lib.hid hpc2
      clear hqs hpc2
      go_wp2_with fail
      refine HPC2.out.mono ?_; rintro e w7 ⟨v7, rfl, L7, hb7⟩
      obtain ⟨A7, n7, c7, rfl, -⟩ := L7.slc
      have B7 := Lib.hid (B6.out.trans (hb7.mono B6.out.size))
      clear hb7 L7
      go_wp2_with fail
      go_ret
      exact ⟨rfl, B7.out⟩
     | succ m =>
      have htk : ts[m]? = some tk := htk
      have HLE := Lib.hid (show m + 1 = 0 ∨ ∃ t, ts[m + 1 - 1]? = some t ∧ t.p ≤ at_ from .inr ⟨tk, htk, hle⟩)
      have hcells := (K5.out.resolve_left (by rintro ⟨-, h⟩; rw [h] at htk; simp at htk))
      obtain ⟨ad, c', hA, hc', hcell⟩ := hcells
      simp only [Value.slice.injEq] at hA
      obtain ⟨rfl, -, rfl⟩ := hA
      obtain ⟨-, -, -, k3⟩ := hcell m tk htk
      have e1 : ((m + 1 : Nat) : Int) - 1 = (m : Int) := by omega
      rw [e1]
      have hml : m < ts.length := by omega
      have hlt2 : ¬ (at_ : Int) < (tk.p : Int) := by omega
      clear hcell htk hle
      have hE : endN ts ls.length (m + 1) ≤ s.size := by rw [HSZ.out]; exact endN_le HFZ.out H8.out _
      obtain ⟨E, hEE⟩ : ∃ E, endN ts ls.length (m + 1) = E := ⟨_, rfl⟩
      rw [hEE] at hE ⊢
      have HEE := Lib.hid hEE
      have hsx : (s.extract 0 E).size ≤ 1500 := by simp; omega
      obtain ⟨T, hT⟩ : ∃ T, s.extract 0 E ++ (⟨#[10]⟩ : ByteArray) ++ t = T := ⟨_, rfl⟩
      have HTT := Lib.hid hT
      have HTL := Lib.hid (show T = ofL (ls.take E ++ 10 :: lt) by
       rw [← hT, HS.out, HST.out, ofL_extract, List.drop_zero, Nat.sub_zero, show (⟨#[10]⟩ : ByteArray) = ofL [10] from rfl, ofL_append, ofL_append, List.append_assoc]
       rfl)
      obtain ⟨ts2, a2, x2, hf2⟩ : ∃ ts a x, full (ls.take E ++ 10 :: lt) = (ts, a, x) := ⟨_, _, _, rfl⟩
      have HF2 := Lib.hid hf2
      clear hf2 hT hEE
      go_wp2_with fail
      rw [HTT.out]
      refine (toks_at T _ HTL.out ts2 a2 x2 HF2.out _).mono ?_; rintro e w6 ⟨v6, rfl, ht6, hb6, -⟩
      obtain ⟨A6, c6, rfl⟩ := ht6.shape
      have B6 := Lib.hid (B5.out.trans (hb6.mono B5.out.size))
      clear hb6 ht6
      by_cases hx2 : x2 = 0
      rotate_left
      ·have e0 : ¬ x2 = 0 := hx2
       clear hx2
       go_wp2_with fail
       go_ret
       exact ⟨rfl, B6.out⟩
      subst hx2
      have hfl := first_law H8.out H9.out HFZ.out HP.out (.inl rfl) HAT.out (j := (m + 1)) (by omega) HGT.out HLE.out (by rw [HEE.out, HF2.out])
      rw [HEE.out] at hfl
      obtain ⟨qs, hqs⟩ := hfl
      have hpc2 := parse_any (HT.out.below B6.out) (Nat.lt_of_lt_of_le HG.out B6.out.size) (ls.take E ++ 10 :: lt)
      rw [hqs, ← HTL.out] at hpc2
      have HPC2 := Lib.hid hpc2
      clear hqs hpc2
      go_wp2_with fail
      refine HPC2.out.mono ?_; rintro e w7 ⟨v7, rfl, L7, hb7⟩
      obtain ⟨A7, n7, c7, rfl, -⟩ := L7.slc
      have B7 := Lib.hid (B6.out.trans (hb7.mono B6.out.size))
      clear hb7 L7
      go_wp2_with fail
      go_ret
      exact ⟨rfl, B7.out⟩
   ·have hcells := (K5.out.resolve_left (by rintro ⟨-, h⟩; rw [h] at htk; simp at htk))
    obtain ⟨ad, c', hA, hc', hcell⟩ := hcells
    simp only [Value.slice.injEq] at hA
    obtain ⟨rfl, -, rfl⟩ := hA
    obtain ⟨-, -, -, k3⟩ := hcell m tk htk
    have e1 : ((m + 1 : Nat) : Int) - 1 = (m : Int) := by omega
    rw [e1]
    have hml : m < ts.length := by omega
    have hlt2 : (at_ : Int) < (tk.p : Int) := by omega
    have hwm : wrap64 ((m : Int) - 1) = (m : Int) - 1 := by unfold wrap64; omega
    have HG2 := Lib.hid (show ∀ t ∈ ts.drop m, at_ < t.p by
     intro t ht
     rw [List.drop_eq_getElem_cons hml, List.mem_cons] at ht
     rcases ht with rfl | ht
     ·rw [(List.getElem?_eq_some_iff.1 htk).2]; exact hlt
     ·exact HGT.out t ht)
    have HEN := Lib.hid (show endN ts ls.length m = tk.p by unfold endN; rw [htk])
    clear hcell htk hlt hjl
    go_wp2_with fail
    go_roundg (gk - 1)
    case rel => exact ⟨m, by omega, by omega, by simp, by rw [HEN.out], HG2, rfl⟩
    case measure => omega
 ·skip
  have e3 : ¬ s.size ≤ at_ := by have := HSZ.out; omega
  have HAT := Lib.hid hat
  have hlen : ts.length ≤ 1500 := by
   have h1 := HF.out
   have h2 := H8.out
   rw [full_small (by omega)] at h1
   have h3 := lxs_len 0 ls
   rw [h1] at h3
   exact Nat.le_trans h3 h2
  have hw1 : wrap64 ((ts.length : Int) - 1) = (ts.length : Int) - 1 := by unfold wrap64; omega
  clear hat
  go_wp2_with fail
  go_loopg [11, 12] ts.length (fun gk v11 v12 wr => FrRel w5 ts at_ ls.length gk v11 v12 wr)
  case atStart =>
   refine ⟨ts.length, Nat.le_refl _, Nat.le_refl _, ?_, ?_, by unfold Hid; rw [List.drop_length]; intro t ht; simp at ht, rfl⟩
   ·first | rfl | (rw [hw1])
   ·unfold endN
    rw [List.getElem?_eq_none (Nat.le_refl _)]
    show _ = Value.int .i64 ((ls.length : Nat) : Int)
    rw [← HSZ.out]
  case round =>
   obtain ⟨j, hjl, hjg, rfl, rfl, HGT, rfl⟩ := hrel
   have hexit : (j = 0 ∨ ∃ t, ts[j - 1]? = some t ∧ t.p ≤ at_) ∨ ∃ m t, j = m + 1 ∧ ts[m]? = some t ∧ at_ < t.p := by
    cases j with
    | zero => exact .inl (.inl rfl)
    | succ m =>
     have hm : ts[m]? = some ts[m] := List.getElem?_eq_getElem (by omega)
     by_cases h : at_ < (ts[m]'(by omega)).p
     ·exact .inr ⟨m, _, rfl, hm, h⟩
     ·exact .inl (.inr ⟨_, hm, by omega⟩)
   rcases hexit with hle | ⟨m, tk, rfl, htk, hlt⟩
   ·skip
    rcases hle with rfl | ⟨tk, htk, hle⟩
    ·have e1 : ((0 : Nat) : Int) - 1 = -1 := rfl
     rw [e1]
     have hE : endN ts ls.length 0 ≤ s.size := by rw [HSZ.out]; exact endN_le HFZ.out H8.out _
     obtain ⟨E, hEE⟩ : ∃ E, endN ts ls.length 0 = E := ⟨_, rfl⟩
     rw [hEE] at hE ⊢
     have HEE := Lib.hid hEE
     have hsx : (s.extract 0 E).size ≤ 1500 := by simp; omega
     obtain ⟨T, hT⟩ : ∃ T, s.extract 0 E ++ (⟨#[10]⟩ : ByteArray) ++ t = T := ⟨_, rfl⟩
     have HTT := Lib.hid hT
     have HTL := Lib.hid (show T = ofL (ls.take E ++ 10 :: lt) by
      rw [← hT, HS.out, HST.out, ofL_extract, List.drop_zero, Nat.sub_zero, show (⟨#[10]⟩ : ByteArray) = ofL [10] from rfl, ofL_append, ofL_append, List.append_assoc]
      rfl)
     obtain ⟨ts2, a2, x2, hf2⟩ : ∃ ts a x, full (ls.take E ++ 10 :: lt) = (ts, a, x) := ⟨_, _, _, rfl⟩
     have HF2 := Lib.hid hf2
     clear hf2 hT hEE
     go_wp2_with fail
     rw [HTT.out]
     refine (toks_at T _ HTL.out ts2 a2 x2 HF2.out _).mono ?_; rintro e w6 ⟨v6, rfl, ht6, hb6, -⟩
     obtain ⟨A6, c6, rfl⟩ := ht6.shape
     have B6 := Lib.hid (B5.out.trans (hb6.mono B5.out.size))
     clear hb6 ht6
     by_cases hx2 : x2 = 0
     rotate_left
     ·have e0 : ¬ x2 = 0 := hx2
      clear hx2
      go_wp2_with fail
      go_ret
      exact ⟨rfl, B6.out⟩
     subst hx2
     have hfl := first_law H8.out H9.out HFZ.out HP.out (.inr rfl) HAT.out (j := 0) (by omega) HGT.out (.inl rfl) (by rw [HEE.out, HF2.out])
     rw [HEE.out] at hfl
     obtain ⟨qs, hqs⟩ := hfl
     have hpc2 := parse_any (HT.out.below B6.out) (Nat.lt_of_lt_of_le HG.out B6.out.size) (ls.take E ++ 10 :: lt)
     rw [hqs, ← HTL.out] at hpc2
     have HPC2 := Lib.hid hpc2
     clear hqs hpc2
     go_wp2_with fail
     refine HPC2.out.mono ?_; rintro e w7 ⟨v7, rfl, L7, hb7⟩
     obtain ⟨A7, n7, c7, rfl, -⟩ := L7.slc
     have B7 := Lib.hid (B6.out.trans (hb7.mono B6.out.size))
     clear hb7 L7
     go_wp2_with fail
     go_ret
     exact ⟨rfl, B7.out⟩
    ·cases j with
     | zero =>
      have e1 : ((0 : Nat) : Int) - 1 = -1 := rfl
      rw [e1]
      clear htk hle
      have hE : endN ts ls.length 0 ≤ s.size := by rw [HSZ.out]; exact endN_le HFZ.out H8.out _
      obtain ⟨E, hEE⟩ : ∃ E, endN ts ls.length 0 = E := ⟨_, rfl⟩
      rw [hEE] at hE ⊢
      have HEE := Lib.hid hEE
      have hsx : (s.extract 0 E).size ≤ 1500 := by simp; omega
      obtain ⟨T, hT⟩ : ∃ T, s.extract 0 E ++ (⟨#[10]⟩ : ByteArray) ++ t = T := ⟨_, rfl⟩
      have HTT := Lib.hid hT
      have HTL := Lib.hid (show T = ofL (ls.take E ++ 10 :: lt) by
       rw [← hT, HS.out, HST.out, ofL_extract, List.drop_zero, Nat.sub_zero, show (⟨#[10]⟩ : ByteArray) = ofL [10] from rfl, ofL_append, ofL_append, List.append_assoc]
       rfl)
      obtain ⟨ts2, a2, x2, hf2⟩ : ∃ ts a x, full (ls.take E ++ 10 :: lt) = (ts, a, x) := ⟨_, _, _, rfl⟩
      have HF2 := Lib.hid hf2
      clear hf2 hT hEE
      go_wp2_with fail
      rw [HTT.out]
      refine (toks_at T _ HTL.out ts2 a2 x2 HF2.out _).mono ?_; rintro e w6 ⟨v6, rfl, ht6, hb6, -⟩
      obtain ⟨A6, c6, rfl⟩ := ht6.shape
      have B6 := Lib.hid (B5.out.trans (hb6.mono B5.out.size))
      clear hb6 ht6
      by_cases hx2 : x2 = 0
      rotate_left
      ·have e0 : ¬ x2 = 0 := hx2
       clear hx2
       go_wp2_with fail
       go_ret
       exact ⟨rfl, B6.out⟩
      subst hx2
      have hfl := first_law H8.out H9.out HFZ.out HP.out (.inr rfl) HAT.out (j := 0) (by omega) HGT.out (.inl rfl) (by rw [HEE.out, HF2.out])
      rw [HEE.out] at hfl
      obtain ⟨qs, hqs⟩ := hfl
      have hpc2 := parse_any (HT.out.below B6.out) (Nat.lt_of_lt_of_le HG.out B6.out.size) (ls.take E ++ 10 :: lt)
      rw [hqs, ← HTL.out] at hpc2
      have HPC2 := Lib.hid hpc2
      clear hqs hpc2
      go_wp2_with fail
      refine HPC2.out.mono ?_; rintro e w7 ⟨v7, rfl, L7, hb7⟩
      obtain ⟨A7, n7, c7, rfl, -⟩ := L7.slc
      have B7 := Lib.hid (B6.out.trans (hb7.mono B6.out.size))
      clear hb7 L7
      go_wp2_with fail
      go_ret
      exact ⟨rfl, B7.out⟩
     | succ m =>
      have htk : ts[m]? = some tk := htk
      have HLE := Lib.hid (show m + 1 = 0 ∨ ∃ t, ts[m + 1 - 1]? = some t ∧ t.p ≤ at_ from .inr ⟨tk, htk, hle⟩)
      have hcells := (K5.out.resolve_left (by rintro ⟨-, h⟩; rw [h] at htk; simp at htk))
      obtain ⟨ad, c', hA, hc', hcell⟩ := hcells
      simp only [Value.slice.injEq] at hA
      obtain ⟨rfl, -, rfl⟩ := hA
      obtain ⟨-, -, -, k3⟩ := hcell m tk htk
      have e1 : ((m + 1 : Nat) : Int) - 1 = (m : Int) := by omega
      rw [e1]
      have hml : m < ts.length := by omega
      have hlt2 : ¬ (at_ : Int) < (tk.p : Int) := by omega
      clear hcell htk hle
      have hE : endN ts ls.length (m + 1) ≤ s.size := by rw [HSZ.out]; exact endN_le HFZ.out H8.out _
      obtain ⟨E, hEE⟩ : ∃ E, endN ts ls.length (m + 1) = E := ⟨_, rfl⟩
      rw [hEE] at hE ⊢
      have HEE := Lib.hid hEE
      have hsx : (s.extract 0 E).size ≤ 1500 := by simp; omega
      obtain ⟨T, hT⟩ : ∃ T, s.extract 0 E ++ (⟨#[10]⟩ : ByteArray) ++ t = T := ⟨_, rfl⟩
      have HTT := Lib.hid hT
      have HTL := Lib.hid (show T = ofL (ls.take E ++ 10 :: lt) by
       rw [← hT, HS.out, HST.out, ofL_extract, List.drop_zero, Nat.sub_zero, show (⟨#[10]⟩ : ByteArray) = ofL [10] from rfl, ofL_append, ofL_append, List.append_assoc]
       rfl)
      obtain ⟨ts2, a2, x2, hf2⟩ : ∃ ts a x, full (ls.take E ++ 10 :: lt) = (ts, a, x) := ⟨_, _, _, rfl⟩
      have HF2 := Lib.hid hf2
      clear hf2 hT hEE
      go_wp2_with fail
      rw [HTT.out]
      refine (toks_at T _ HTL.out ts2 a2 x2 HF2.out _).mono ?_; rintro e w6 ⟨v6, rfl, ht6, hb6, -⟩
      obtain ⟨A6, c6, rfl⟩ := ht6.shape
      have B6 := Lib.hid (B5.out.trans (hb6.mono B5.out.size))
      clear hb6 ht6
      by_cases hx2 : x2 = 0
      rotate_left
      ·have e0 : ¬ x2 = 0 := hx2
       clear hx2
       go_wp2_with fail
       go_ret
       exact ⟨rfl, B6.out⟩
      subst hx2
      have hfl := first_law H8.out H9.out HFZ.out HP.out (.inr rfl) HAT.out (j := (m + 1)) (by omega) HGT.out HLE.out (by rw [HEE.out, HF2.out])
      rw [HEE.out] at hfl
      obtain ⟨qs, hqs⟩ := hfl
      have hpc2 := parse_any (HT.out.below B6.out) (Nat.lt_of_lt_of_le HG.out B6.out.size) (ls.take E ++ 10 :: lt)
      rw [hqs, ← HTL.out] at hpc2
      have HPC2 := Lib.hid hpc2
      clear hqs hpc2
      go_wp2_with fail
      refine HPC2.out.mono ?_; rintro e w7 ⟨v7, rfl, L7, hb7⟩
      obtain ⟨A7, n7, c7, rfl, -⟩ := L7.slc
      have B7 := Lib.hid (B6.out.trans (hb7.mono B6.out.size))
      clear hb7 L7
      go_wp2_with fail
      go_ret
      exact ⟨rfl, B7.out⟩
   ·have hcells := (K5.out.resolve_left (by rintro ⟨-, h⟩; rw [h] at htk; simp at htk))
    obtain ⟨ad, c', hA, hc', hcell⟩ := hcells
    simp only [Value.slice.injEq] at hA
    obtain ⟨rfl, -, rfl⟩ := hA
    obtain ⟨-, -, -, k3⟩ := hcell m tk htk
    have e1 : ((m + 1 : Nat) : Int) - 1 = (m : Int) := by omega
    rw [e1]
    have hml : m < ts.length := by omega
    have hlt2 : (at_ : Int) < (tk.p : Int) := by omega
    have hwm : wrap64 ((m : Int) - 1) = (m : Int) - 1 := by unfold wrap64; omega
    have HG2 := Lib.hid (show ∀ t ∈ ts.drop m, at_ < t.p by
     intro t ht
     rw [List.drop_eq_getElem_cons hml, List.mem_cons] at ht
     rcases ht with rfl | ht
     ·rw [(List.getElem?_eq_some_iff.1 htk).2]; exact hlt
     ·exact HGT.out t ht)
    have HEN := Lib.hid (show endN ts ls.length m = tk.p by unfold endN; rw [htk])
    clear hcell htk hlt hjl
    go_wp2_with fail
    go_roundg (gk - 1)
    case rel => exact ⟨m, by omega, by omega, by simp, by rw [HEN.out], HG2, rfl⟩
    case measure => omega
end
end Go.Proofs.YtpnlojcimeiihaaGreatDoor
