/- Layer 9: the contract of Tokens, with where the tokens lie. -/
import Derived.Test.YtekpefcggikcbaaGreatDoorMLexTks
import Derived.Test.YtekpefcggikcbaaGreatDoorMSyOn
import Derived.Test.YtekpefcggikcbaaGreatDoorMLexPl
import Derived.Test.YtekpefcggikcbaaGreatDoorMSyOi
import Derived.Test.YtekpefcggikcbaaGreatDoorSyEr
import Derived.Test.YtekpefcggikcbaaGreatDoorSvJ
import Derived.Test.YtekpefcggikcbaaGreatDoorMSynB
import Derived.Test.YtekpefcggikcbaaGreatDoorCards
import Derived.Test.YtekpefcggikcbaaGreatDoorTie
import Derived.Lib.LaidTab
import Derived.LaidMore
import Derived.Lay
import Derived.Stop.Joined
import Derived.SevenTiedAt
import Derived.ProofKit
import Derived.OpenShut
namespace Go.Proofs.YtekpefcggikcbaaGreatDoor
/- Layer 9: the contract of Tokens, with where the tokens lie. -/
open Go.RowKit

def TkoPost (w : World) (r : Res) (e : Ending) (w' : World) : Prop :=
 ∃ v, e = .returned (.tuple #[v, .int .i64 (r.2.1 : Int), .int .i64 (r.2.2 : Int)]) ∧ Toks w' v r.1 ∧ Below w.heap.size w w' ∧ ∀ b, v.ownBlock = some b → b < w'.heap.size
theorem TkoPost.mk {w w' : World} {r : Res} {e : Ending} {v : Value} {ts : List Tok} {a x : Nat} (hr : r = (ts, a, x)) (he : e = .returned (.tuple #[v, .int .i64 (a : Int), .int .i64 (x : Int)])) (ht : Toks w' v ts) (hb : Below w.heap.size w w') (ho : ∀ b, v.ownBlock = some b → b < w'.heap.size) : TkoPost w r e w' := by
 subst hr; exact ⟨v, he, ht, hb, ho⟩
theorem nil_own {w : World} : ∀ b, (Value.slice none 0 0).ownBlock = some b → b < w.heap.size := by intro b hb; cases hb
theorem own_lt {w : World} {B e z n : Nat} {v : Value} {xs : List Value} (h : w.ownsRow B e z v n xs) : ∀ b, v.ownBlock = some b → b < w.heap.size := by
 intro b hb
 rcases h.2 with ⟨rfl, _⟩ | ⟨g, cap, cur, rfl, _, hh, _⟩
 ·cases hb
 ·cases hb; exact lt_of_some hh
set_option maxRecDepth 20000 in
set_option maxHeartbeats 1000000 in
theorem tokens_own (l : List UInt8) (w : World) : Calls Tryz.prog 27 #[.string (ofL l)] w (TkoPost w (full l)) := by
 obtain ⟨s, hs⟩ : ∃ s, s = ofL l := ⟨_, rfl⟩
 have hsz : s.size = l.length := by rw [hs, ofL_size]
 by_cases hbig : 8000 < l.length
 ·have hT := Lib.hid (show full l = ([], 8000, 6) by unfold full; rw [if_pos hbig])
  have hb2 : 8000 < s.size := by omega
  rw [← hs]
  clear hs hsz hbig
  go_enter Tryz.func27, Tryz.ntmps27
  go_wp2
  refine bodyPost_ret (v := .tuple #[.slice none 0 0, .int .i64 8000, .int .i64 6]) (by simp [results, Tryz.results27, go_sem]) rfl ?_
  exact TkoPost.mk hT.out rfl (Toks.nil _) (Below.refl _ _) nil_own
 ·have hT := Lib.hid (show full l = lxs 0 l by unfold full; rw [if_neg hbig])
  have hb2 : ¬ 8000 < s.size := by omega
  rw [← hs]
  have hroom : l.length ≤ 8000 := by omega
  have S0 : Hid (Scn (w.alloc (.cells #[.string s, .int .i64 0] 119)) w.heap.size l 0) := ⟨by rw [hs]; exact heap_alloc_new w _, by omega, hroom⟩
  have B0 : Hid (Below w.heap.size w (w.alloc (.cells #[.string s, .int .i64 0] 119))) := (Below.refl _ _).alloc (Nat.le_refl _) _
  clear hs hsz hbig
  go_enter Tryz.func27, Tryz.ntmps27
  go_wp2_with fail
  refine (skip_any S0.out).mono ?_; rintro e w1 ⟨rfl, S1, O1⟩
  have HS1 := Lib.hid S1
  have HB1 := Lib.hid (B0.out.trans (O1.toBelow (Nat.le_refl _) (by simp)))
  clear S1 O1 S0 B0
  go_wp2
  go_loopg [2, 6, 7, 8, 9] (l.length) (fun gk v _ _ _ _ wr => TkRel w l gk v wr)
  case atStart =>
   refine ⟨0 + sk false (l.drop 0), [], by omega, by simp, HS1, HB1, World.ownsRow_nil _ _ _ _, ?_, ?_⟩
   ·unfold Hid
    rw [prep_nil, Nat.zero_add, List.drop_zero]
    have := lxs_skip 0 l
    rwa [Nat.zero_add] at this
   ·unfold Hid
    rw [Nat.zero_add, List.drop_zero]
    exact sk_idem false l
  case round =>
   clear HS1 HB1
   obtain ⟨k, acc, hgk, hak, HS, HB, HV, HL, HK⟩ := hrel
   have hk8 := HS.out.off
   by_cases hend : k = l.length
   ·have he := Lib.hid (show full l = (acc, 0, 0) by
     rw [hT.out, HL.out, lxs_end (by rw [HK.out, List.length_drop]; omega)]
     simp [prep])
    have hd : decide (k = l.length) = true := by simpa using hend
    have HE := Lib.hid hend
    clear hend
    go_wp2_with fail
    refine (ended_any HS.out).mono ?_; rintro e w2 ⟨rfl, m, rfl⟩
    go_wp2_with fail
    refine bodyPost_ret (v := .tuple #[u2, .int .i64 0, .int .i64 0]) (by simp [results, Tryz.results27, go_sem]) rfl ?_
    exact TkoPost.mk he.out rfl ((Toks.of_own HV.out).below (below_drewN (Below.refl _ _) m)) (below_drewN HB.out m) (own_lt HV.out)
   ·have hd : decide (k = l.length) = false := by simpa using hend
    have hkl : k < l.length := by omega
    clear hend
    go_wp2_with fail
    refine (ended_any HS.out).mono ?_; rintro e w2 ⟨rfl, m, rfl⟩
    have HS2 := Lib.hid (HS.out.drewN m)
    have HB2 := Lib.hid (below_drewN HB.out m)
    have c1 : (wr.drewN m).cell? ⟨w.heap.size, 1, none⟩ = some (.int .i64 (k : Int)) := HS2.out.cell 1
    go_wp2_with fail
    refine (reader_any HS2.out).mono ?_
    rintro e w3 ⟨K, rfl, ⟨hE, hR⟩, m2, rfl⟩
    have HR := Lib.hid hR
    have HS3 := Lib.hid (HS2.out.drewN m2)
    have HB3 := Lib.hid (below_drewN HB2.out m2)
    have HV3 : Hid (((wr.drewN m).drewN m2).ownsRow (w.heap.size + 1) 48 4 u2 acc.length (acc.flatMap tcells)) := HV.out
    clear hR c1
    generalize hw3 : (wr.drewN m).drewN m2 = w3 at *
    clear hw3 HS2 HB2
    cases htk : tk (l.drop k) with
    | err x =>
     have HX := Lib.hid htk
     have he := Lib.hid (show full l = ([], k, x) by
      rw [hT.out, HL.out, lxs_err (e := x) (by rw [HK.out, List.length_drop]; omega) (by rw [HK.out, List.drop_zero]; exact htk), HK.out]
      have := tk_errn htk
      simp [prep, this])
     have hx0 : ((x : Int) != 0) = true := by have := tk_errn htk; simp; omega
     clear htk
     go_wp2_with fail
     refine (HR.out _ HS3.out).mono ?_
     rw [HX.out]
     rintro e w4 ⟨rfl, O4⟩
     unfold tokV
     have hbe := Lib.hid (((HB3.out.trans (O4.toBelow (Nat.le_refl _) HB3.out.size)).alloc (Nat.le_trans HB3.out.size O4.size) (.cells #[.int .i64 0, .string (ofL []), .int .i64 0, .int .i64 0] 48)))
     clear O4
     go_wp2_with fail
     refine bodyPost_ret (v := .tuple #[.slice none 0 0, .int .i64 (k : Int), .int .i64 (x : Int)]) (by simp [results, Tryz.results27, go_sem]) rfl ?_
     exact TkoPost.mk he.out rfl (Toks.nil _) hbe.out nil_own
    | ok kd t v n =>
     have HX := Lib.hid htk
     have htl := tk_len htk
     rw [List.length_drop] at htl
     obtain ⟨hn1, hn2⟩ := htl
     clear htk
     go_wp2_with fail
     refine (HR.out _ HS3.out).mono ?_
     rw [HX.out]
     rintro e w4 ⟨rfl, S4, O4⟩
     unfold tokV
     have ht8 : (ofL t).size ≤ 281474976710656 := by rw [ofL_size]; have := tk_tl HX.out; omega
     have hB4 := Lib.hid (HB3.out.trans (O4.toBelow (Nat.le_refl _) HB3.out.size))
     have hS4 := Lib.hid S4
     have hV4 := Lib.hid (own_keepK HV3.out (fun a ha hb => O4.block a ha (by omega)))
     have hsz4 : w.heap.size + 1 ≤ w4.heap.size := by have := hS4.out.lt; omega
     clear O4 S4
     go_wp2_with fail
     refine (clone_any _ _ ht8).mono ?_
     rintro e w5 ⟨rfl, hb5⟩
     have hT5 := Lib.hid ((TBox.made w4 kd v 0 t).below hb5)
     have hB5 := Lib.hid ((((Below.refl w4.heap.size w4).alloc (Nat.le_refl _) (.cells #[.int .i64 (kd : Int), .string (ofL t), .int .i64 (v : Int), .int .i64 0] 48)).trans (hb5.mono (by simp))))
     obtain ⟨d0, d1, d2, d3, f0, f1, f2, f3⟩ := hT5.out.facts
     have hT7 : Hid (TBox ((w5.setCell ⟨w4.heap.size, 1, none⟩ (.string (ofL t))).setCell ⟨w4.heap.size, 3, none⟩ (.int .i64 (k : Int))) w4.heap.size kd t v k) := (hT5.out.set1 t).set3 k
     have hB7 : Hid (Below w4.heap.size w4 ((w5.setCell ⟨w4.heap.size, 1, none⟩ (.string (ofL t))).setCell ⟨w4.heap.size, 3, none⟩ (.int .i64 (k : Int)))) := (hB5.out.setCell (Nat.le_refl _) _).setCell (Nat.le_refl _) _
     have hz7 : Hid (((w5.setCell ⟨w4.heap.size, 1, none⟩ (.string (ofL t))).setCell ⟨w4.heap.size, 3, none⟩ (.int .i64 (k : Int))).heap.size = w5.heap.size) := by unfold Hid; simp [World.setCell]
     have hS7 := Lib.hid (hS4.out.keep (hB7.out.block _ hS4.out.lt))
     have hV7 := Lib.hid (own_keepK hV4.out (fun a ha _ => hB7.out.block a ha))
     have hBB := Lib.hid (hB4.out.trans (hB7.out.mono hB4.out.size))
     have hsz7 : w.heap.size + 1 ≤ ((w5.setCell ⟨w4.heap.size, 1, none⟩ (.string (ofL t))).setCell ⟨w4.heap.size, 3, none⟩ (.int .i64 (k : Int))).heap.size := Nat.le_trans hsz4 hB7.out.size
     clear hb5
     have hacc : (acc.length + 1) * 40 ≤ 140737488355328 := by omega
     go_wp2_with (at_builtin; refine app4 rfl _ _ 42 rfl 48 _ 40 info_tok Tryz.underlying42 rfl (w.heap.size + 1) _ _ _ rfl hV7.out _ _ _ _ (by rw [hz7.out]; rfl) (by simp [Value.oneCell']) hacc (by omega) hsz7 ?_; intro v' w8 hown8 hf8; have hV8 := Lib.hid hown8; have hF8 := Lib.hid hf8; clear hown8 hf8; have hS8 : Hid (Scn w8 w.heap.size l (k + n)) := ⟨hF8.out.keeps hS7.out.blk (by decide), hS7.out.off, hS7.out.room⟩)
     have hBB8 := Lib.hid (hBB.out.trans ((hF8.out.below hsz7).mono (by omega)))
     refine (skip_any hS8.out).mono ?_
     rintro e w9 ⟨rfl, S9, O9⟩
     have hS9 := Lib.hid S9
     have hV9 := Lib.hid (own_keepK hV8.out (fun a ha hb => O9.block a ha (by omega)))
     have hB9 := Lib.hid (hBB8.out.trans (O9.toBelow (Nat.le_refl _) hBB8.out.size))
     clear S9 O9
     go_wp2_with fail
     go_roundg (gk - n)
     case rel =>
      refine ⟨k + n + sk false (l.drop (k + n)), acc ++ [⟨kd, t, v, k⟩], by omega, by simp; omega, hS9, hB9, ?_, ?_, ?_⟩
      ·have h9 := hV9.out
       rw [List.length_append, List.flatMap_append]
       exact h9
      ·unfold Hid
       rw [HL.out, lxs_ok (k := kd) (t := t) (v := v) (m := n) (by rw [HK.out, List.length_drop]; omega) (by rw [HK.out, List.drop_zero]; exact HX.out), HK.out, prep_push]
       simp only [Nat.add_zero, List.drop_drop]
       rw [lxs_skip (k + n), List.drop_drop]
      ·unfold Hid
       rw [← List.drop_drop]
       exact sk_idem false _
     case measure => omega
/- Layer 10: the contracts of Print and Parse. -/
open Go.RowKit

theorem tk_small {l : List UInt8} {k v m : Nat} {t : List UInt8} (h : tk l = .ok k t v m) : t.length ≤ 40 ∧ v ≤ 999999 := by
 unfold tk at h
 split at h
 ·unfold tkName at h
  split at h
  ·cases h
  ·cases h; exact ⟨by simp; omega, by omega⟩
 split at h
 ·unfold tkNum at h
  split at h
  ·cases h
  split at h
  ·cases h
  ·rename_i hd
   cases h
   refine ⟨by simp, ?_⟩
   have h1 := numF_le (l.take (spn cD l)) 0 fun c hc => by
    obtain ⟨j, hj⟩ := List.getElem?_of_mem hc
    have hjl : j < spn cD l := by
     have := (List.getElem?_eq_some_iff.1 hj).1
     rw [List.length_take] at this; omega
    rw [List.getElem?_take, if_pos hjl] at hj
    exact spn_mem hjl hj
   have h2 : 10 ^ (l.take (spn cD l)).length ≤ 10 ^ 6 := Nat.pow_le_pow_right (by decide) (by simp; omega)
   have h3 : (10 : Nat) ^ 6 = 1000000 := by decide
   omega
 split at h
 ·unfold tkText at h
  split at h
  ·cases h
  ·split at h
   ·cases h
   ·cases h; exact ⟨by omega, by omega⟩
 ·unfold tkMark at h
  split at h
  ·cases h; exact ⟨by simp; omega, by omega⟩
  split at h
  ·cases h; exact ⟨by simp; omega, by omega⟩
  ·cases h
theorem lxs_toks : ∀ o l, ∀ t ∈ (lxs o l).1, t.t.length ≤ 40 ∧ t.v ≤ 999999 := by
 refine lxs_ind (P := fun _ _ r => ∀ t ∈ r.1, t.t.length ≤ 40 ∧ t.v ≤ 999999) ?_ ?_ ?_
 ·intro o l _ t ht; simp at ht
 ·intro o l e _ _ t ht; simp at ht
 ·intro o l k t v m _ ht ih u hu
  unfold push at hu
  split at hu
  ·simp only [List.mem_cons] at hu
   rcases hu with rfl | hu
   ·exact tk_small ht
   ·exact ih u hu
  ·exact ih u hu
theorem lxs_sm {l : List UInt8} (hl : l.length ≤ 8000) (h0 : (lxs 0 l).2.2 = 0) : SmT (lxs 0 l).1 := by
 refine ⟨Nat.le_trans (lxs_len 0 l) hl, fun t ht => ?_⟩
 obtain ⟨j, hj⟩ := List.getElem?_of_mem ht
 have := (lxs_places 0 l h0).1 j t hj
 have h2 := lxs_toks 0 l t ht
 exact ⟨h2.1, h2.2, by omega⟩
theorem toks_at (s : ByteArray) (l : List UInt8) (hs : s = ofL l) (ts : List Tok) (a x : Nat) (h : full l = (ts, a, x)) (w : World) : Calls Tryz.prog 27 #[.string s] w fun e w' => ∃ v, e = .returned (.tuple #[v, .int .i64 (a : Int), .int .i64 (x : Int)]) ∧ Toks w' v ts ∧ Below w.heap.size w w' ∧ ∀ b, v.ownBlock = some b → b < w'.heap.size := by
 subst hs
 refine (tokens_own l w).mono fun e w' hp => ?_
 obtain ⟨v, h1, h2, h3⟩ := hp
 rw [h] at h1 h2
 exact ⟨v, h1, h2, h3⟩
/-- What Parse answers. -/
def parseB (l : Bs) : List Pr × Nat × Nat :=
 if (full l).2.2 ≠ 0 then ([], (full l).2.1, (full l).2.2)
 else if (sourceP l.length ⟨(full l).1, 0, 0⟩).2.e ≠ 0 then ([], (sourceP l.length ⟨(full l).1, 0, 0⟩).2.a, (sourceP l.length ⟨(full l).1, 0, 0⟩).2.e)
 else if vB (sourceP l.length ⟨(full l).1, 0, 0⟩).1 = true then ((sourceP l.length ⟨(full l).1, 0, 0⟩).1, 0, 0)
 else ([], 0, 6)
def ParsePost (w : World) (r : List Pr × Nat × Nat) (e : Ending) (w' : World) : Prop :=
 ∃ v, e = .returned (.tuple #[v, .int .i64 (r.2.1 : Int), .int .i64 (r.2.2 : Int)]) ∧ Lies w' (fun k => w.heap.size ≤ k) v (.s 4 (r.1.flatMap dP)) ∧ Below w.heap.size w w'
def PrintPost (w : World) (ps : List Pr) (e : Ending) (w' : World) : Prop :=
 e = .returned (.tuple #[.string (ofL (if vB ps = true then canonB ps else [])), .int .i64 (if vB ps = true then 0 else 1)]) ∧ Below w.heap.size w w'
section
variable {w w' : World} {S T : Nat → Prop}
set_option maxHeartbeats 4000000 in
theorem print_any (ht : Tb w) (hg : gT < w.heap.size) (ps : List Pr) (v : Value) (L : Lies w S v (.s 4 (ps.flatMap dP))) :
  Calls Tryz.prog 20 #[v] w (PrintPost w ps) := by
 obtain ⟨A, m, c, rfl, -⟩ := L.slc
 have HT := Lib.hid ht
 have HG := Lib.hid hg
 have LL := Lib.hid L
 clear ht hg L
 unfold PrintPost
 cases hv : vB ps with
 | false =>
  have HV := Lib.hid hv
  clear hv
  go_enter Tryz.func20, Tryz.ntmps20
  go_wp2_with fail
  refine (valid_any HT.out HG.out ps _ LL.out).mono ?_; rintro e w3 ⟨rfl, hb3⟩; rw [HV.out]
  have B3 := Lib.hid hb3
  clear hb3
  go_wp2_with fail
  refine bodyPost_ret (v := .tuple #[.string ⟨#[]⟩, .int .i64 1]) (by simp [results, Tryz.results20, go_sem]) rfl ?_
  exact ⟨rfl, B3.out⟩
 | true =>
  have HS := Lib.hid (vall_sm (ps := ps) (by unfold vB at hv; rw [Bool.and_eq_true] at hv; exact hv.1))
  have HV := Lib.hid hv
  clear hv
  go_enter Tryz.func20, Tryz.ntmps20
  go_wp2_with fail
  refine (valid_any HT.out HG.out ps _ LL.out).mono ?_; rintro e w3 ⟨rfl, hb3⟩; rw [HV.out]
  have B3 := Lib.hid hb3
  clear hb3
  go_wp2_with fail
  refine (canon_any (S := fun k => S k ∧ k < w.heap.size) (HT.out.below B3.out) (Nat.lt_of_lt_of_le HG.out B3.out.size) ps HS.out.1 _ ((show Lies w (fun k => S k ∧ k < w.heap.size) _ _ from LL.out.mono fun k hk hS => ⟨hS, hk⟩).belowT B3.out) (fun k hk => Nat.lt_of_lt_of_le hk.2 B3.out.size) HS.out.2.1 HS.out.2.2).mono ?_; rintro e w4 ⟨rfl, hb4⟩
  have B4 := Lib.hid (B3.out.trans (hb4.mono B3.out.size))
  clear hb4
  go_wp2_with fail
  refine bodyPost_ret (v := .tuple #[.string (ofL (canonB ps)), .int .i64 0]) (by simp [results, Tryz.results20, go_sem]) rfl ?_
  exact ⟨rfl, B4.out⟩
set_option maxHeartbeats 8000000 in
theorem parse_any (ht : Tb w) (hg : gT < w.heap.size) (l : Bs) : Calls Tryz.prog 14 #[.string (ofL l)] w (ParsePost w (parseB l)) := by
 obtain ⟨s, hs⟩ : ∃ s, ofL l = s := ⟨_, rfl⟩
 have hsz : s.size = l.length := by rw [← hs, ofL_size]
 have HT := Lib.hid ht
 have HG := Lib.hid hg
 obtain ⟨ts, a, x, hf⟩ : ∃ ts a x, full l = (ts, a, x) := ⟨_, _, _, rfl⟩
 have HTK := Lib.hid (toks_at s l hs.symm ts a x hf w)
 rw [hs]
 clear ht hg
 by_cases hx : x = 0
 ·subst hx
  have hl8 : l.length ≤ 8000 := by
   by_cases h8 : 8000 < l.length
   ·unfold full at hf; rw [if_pos h8] at hf; simp at hf
   ·omega
  have hlx := full_small hl8
  have hst : SmT ts := by
   have h0 := lxs_sm hl8 (by rw [← hlx, hf])
   rwa [← hlx, hf] at h0
  have HST := Lib.hid hst
  have ha0 : a = 0 := by
   have := (lxs_bad 0 l).2 (by rw [← hlx, hf])
   rwa [← hlx, hf] at this
  subst ha0
  obtain ⟨R, hR⟩ : ∃ R, sourceP l.length ⟨ts, 0, 0⟩ = R := ⟨_, rfl⟩
  have HR := Lib.hid hR
  have HSZ := Lib.hid hsz
  have HL8 := Lib.hid hl8
  have hP : parseB l = if R.2.e ≠ 0 then ([], R.2.a, R.2.e) else if vB R.1 = true then (R.1, 0, 0) else ([], 0, 6) := by
   unfold parseB
   rw [hf]
   simp only [ne_eq, not_true_eq_false, if_false]
   rw [hR]
  have hs8 : s.size ≤ 8000 := by omega
  clear hs hf hlx hst hR hl8
  have HSTR : ∀ (B : World) (v : Value), (∀ b, v.ownBlock = some b → b < B.heap.size) → Toks B v ts → Prs (B.alloc (.cells #[v, .int .i64 (l.length : Int), .int .i64 ((0 : Nat) : Int), .int .i64 ((0 : Nat) : Int)] 81)) B.heap.size l.length ⟨ts, 0, 0⟩ := fun B v hB hv =>
   ⟨⟨v, heap_alloc_new B _, hv.below ((Below.refl B.heap.size B).alloc (Nat.le_refl _) _), hB⟩, HST.out, HL8.out, Nat.zero_le _, Nat.zero_le _, fun h => absurd rfl h⟩
  have HPR := Lib.hid HSTR
  clear HSTR
  have HP := Lib.hid hP
  clear hP hsz
  by_cases he : R.2.e = 0
  ·have e0 : ((R.2.e : Int) == 0) = true := by rw [beq_iff_eq]; omega
   cases hv : vB R.1 with
   | false =>
    have HF := Lib.hid (show parseB l = ([], 0, 6) by rw [HP.out, if_neg (by simp [he]), if_neg (by simp [hv])])
    have HV := Lib.hid hv
    clear hv he
    go_enter Tryz.func14, Tryz.ntmps14
    go_wp2_with fail
    refine HTK.out.mono ?_; rintro e w3 ⟨v, rfl, ht3, hb3, ho3⟩
    obtain ⟨A, c, rfl⟩ := ht3.shape
    have B3 := Lib.hid hb3
    have P3 := Lib.hid (HPR.out w3 _ ho3 ht3)
    obtain ⟨W3, hW3⟩ : ∃ W, w3.alloc (.cells #[.slice A ts.length c, .int .i64 (l.length : Int), .int .i64 ((0 : Nat) : Int), .int .i64 ((0 : Nat) : Int)] 81) = W := ⟨_, rfl⟩
    have A3 := Lib.hid (show Below w.heap.size w W3 by rw [← hW3]; exact B3.out.alloc B3.out.size _)
    rw [hW3] at P3
    have HW3 := Lib.hid (show w3.alloc (.cells #[.slice A ts.length c, .int .i64 (l.length : Int), .int .i64 0, .int .i64 0] 81) = W3 from hW3)
    clear hb3 ho3 ht3 hW3
    go_wp2_with fail
    rw [HSZ.out, HW3.out]
    refine (psource_any P3.out).mono ?_; rintro e w4 ⟨v, rfl, L4, P4, O4⟩
    rw [HR.out] at L4 P4
    obtain ⟨A5, m5, c5, rfl, -⟩ := L4.slc
    have B4 := Lib.hid (A3.out.trans (O4.toBelow B3.out.size A3.out.size))
    have M4 := Lib.hid (L4.mono fun k _ hk => Nat.le_trans A3.out.size hk)
    obtain ⟨v5, g5, -, -⟩ := P4.blk
    have y2 : w4.cell? ⟨w3.heap.size, 2, none⟩ = some (.int .i64 (R.2.a : Int)) := cell_of_row _ _ 2 _ _ _ g5
    have y3 : w4.cell? ⟨w3.heap.size, 3, none⟩ = some (.int .i64 (R.2.e : Int)) := cell_of_row _ _ 3 _ _ _ g5
    clear g5 L4 P4 O4
    go_wp2_with fail
    refine (valid_any (HT.out.below B4.out) (Nat.lt_of_lt_of_le HG.out B4.out.size) R.1 _ M4.out).mono ?_; rintro e w5 ⟨rfl, hb5⟩; rw [HV.out]
    have B5 := Lib.hid (B4.out.trans (hb5.mono B4.out.size))
    have M5 := Lib.hid (M4.out.belowT hb5)
    clear hb5 y2 y3
    go_wp2_with fail
    clear M5
    refine bodyPost_ret (v := .tuple #[.slice none 0 0, .int .i64 0, .int .i64 6]) (by simp [results, Tryz.results14, go_sem]) rfl ?_
    exact ⟨_, by rw [HF.out]; rfl, by rw [HF.out]; exact Lies.nil 4, B5.out⟩
   | true =>
    have HF := Lib.hid (show parseB l = (R.1, 0, 0) by rw [HP.out, if_neg (by simp [he]), if_pos hv])
    have HV := Lib.hid hv
    clear hv he
    go_enter Tryz.func14, Tryz.ntmps14
    go_wp2_with fail
    refine HTK.out.mono ?_; rintro e w3 ⟨v, rfl, ht3, hb3, ho3⟩
    obtain ⟨A, c, rfl⟩ := ht3.shape
    have B3 := Lib.hid hb3
    have P3 := Lib.hid (HPR.out w3 _ ho3 ht3)
    obtain ⟨W3, hW3⟩ : ∃ W, w3.alloc (.cells #[.slice A ts.length c, .int .i64 (l.length : Int), .int .i64 ((0 : Nat) : Int), .int .i64 ((0 : Nat) : Int)] 81) = W := ⟨_, rfl⟩
    have A3 := Lib.hid (show Below w.heap.size w W3 by rw [← hW3]; exact B3.out.alloc B3.out.size _)
    rw [hW3] at P3
    have HW3 := Lib.hid (show w3.alloc (.cells #[.slice A ts.length c, .int .i64 (l.length : Int), .int .i64 0, .int .i64 0] 81) = W3 from hW3)
    clear hb3 ho3 ht3 hW3
    go_wp2_with fail
    rw [HSZ.out, HW3.out]
    refine (psource_any P3.out).mono ?_; rintro e w4 ⟨v, rfl, L4, P4, O4⟩
    rw [HR.out] at L4 P4
    obtain ⟨A5, m5, c5, rfl, -⟩ := L4.slc
    have B4 := Lib.hid (A3.out.trans (O4.toBelow B3.out.size A3.out.size))
    have M4 := Lib.hid (L4.mono fun k _ hk => Nat.le_trans A3.out.size hk)
    obtain ⟨v5, g5, -, -⟩ := P4.blk
    have y2 : w4.cell? ⟨w3.heap.size, 2, none⟩ = some (.int .i64 (R.2.a : Int)) := cell_of_row _ _ 2 _ _ _ g5
    have y3 : w4.cell? ⟨w3.heap.size, 3, none⟩ = some (.int .i64 (R.2.e : Int)) := cell_of_row _ _ 3 _ _ _ g5
    clear g5 L4 P4 O4
    go_wp2_with fail
    refine (valid_any (HT.out.below B4.out) (Nat.lt_of_lt_of_le HG.out B4.out.size) R.1 _ M4.out).mono ?_; rintro e w5 ⟨rfl, hb5⟩; rw [HV.out]
    have B5 := Lib.hid (B4.out.trans (hb5.mono B4.out.size))
    have M5 := Lib.hid (M4.out.belowT hb5)
    clear hb5 y2 y3
    go_wp2_with fail
    refine bodyPost_ret (v := .tuple #[.slice A5 m5 c5, .int .i64 0, .int .i64 0]) (by simp [results, Tryz.results14, go_sem]) rfl ?_
    exact ⟨_, by rw [HF.out]; rfl, by rw [HF.out]; exact M5.out, B5.out⟩
  ·have e0 : ((R.2.e : Int) == 0) = false := by rw [beq_eq_false_iff_ne]; omega
   have HF := Lib.hid (show parseB l = ([], R.2.a, R.2.e) by rw [HP.out, if_pos he])
   clear he
   go_enter Tryz.func14, Tryz.ntmps14
   go_wp2_with fail
   refine HTK.out.mono ?_; rintro e w3 ⟨v, rfl, ht3, hb3, ho3⟩
   obtain ⟨A, c, rfl⟩ := ht3.shape
   have B3 := Lib.hid hb3
   have P3 := Lib.hid (HPR.out w3 _ ho3 ht3)
   obtain ⟨W3, hW3⟩ : ∃ W, w3.alloc (.cells #[.slice A ts.length c, .int .i64 (l.length : Int), .int .i64 ((0 : Nat) : Int), .int .i64 ((0 : Nat) : Int)] 81) = W := ⟨_, rfl⟩
   have A3 := Lib.hid (show Below w.heap.size w W3 by rw [← hW3]; exact B3.out.alloc B3.out.size _)
   rw [hW3] at P3
   have HW3 := Lib.hid (show w3.alloc (.cells #[.slice A ts.length c, .int .i64 (l.length : Int), .int .i64 0, .int .i64 0] 81) = W3 from hW3)
   clear hb3 ho3 ht3 hW3
   go_wp2_with fail
   rw [HSZ.out, HW3.out]
   refine (psource_any P3.out).mono ?_; rintro e w4 ⟨v, rfl, L4, P4, O4⟩
   rw [HR.out] at L4 P4
   obtain ⟨A5, m5, c5, rfl, -⟩ := L4.slc
   have B4 := Lib.hid (A3.out.trans (O4.toBelow B3.out.size A3.out.size))
   have M4 := Lib.hid (L4.mono fun k _ hk => Nat.le_trans A3.out.size hk)
   obtain ⟨v5, g5, -, -⟩ := P4.blk
   have y2 : w4.cell? ⟨w3.heap.size, 2, none⟩ = some (.int .i64 (R.2.a : Int)) := cell_of_row _ _ 2 _ _ _ g5
   have y3 : w4.cell? ⟨w3.heap.size, 3, none⟩ = some (.int .i64 (R.2.e : Int)) := cell_of_row _ _ 3 _ _ _ g5
   clear g5 L4 P4 O4
   go_wp2_with fail
   go_region
   go_wp2_with fail
   all_goals
    refine bodyPost_ret (v := .tuple #[.slice none 0 0, .int .i64 (R.2.a : Int), .int .i64 (R.2.e : Int)]) (by simp [results, Tryz.results14, go_sem]) rfl ?_
    exact ⟨_, by rw [HF.out], by rw [HF.out]; exact Lies.nil 4, B4.out.drew⟩
 ·have HP := Lib.hid (show parseB l = ([], a, x) by unfold parseB; rw [hf]; exact if_pos hx)
  have hx2 : ((x : Int) == 0) = false := by rw [beq_eq_false_iff_ne]; omega
  clear hs hf hx
  go_enter Tryz.func14, Tryz.ntmps14
  go_wp2_with fail
  refine HTK.out.mono ?_; rintro e w3 ⟨v, rfl, -, hb3, -⟩
  have B3 := Lib.hid hb3
  clear hb3
  go_wp2_with fail
  refine bodyPost_ret (v := .tuple #[.slice none 0 0, .int .i64 (a : Int), .int .i64 (x : Int)]) (by simp [results, Tryz.results14, go_sem]) rfl ?_
  exact ⟨_, by rw [HP.out], by rw [HP.out]; exact Lies.nil 4, B3.out⟩
end
/- Layer 10: the example of the document, plainly. -/
open Go.RowKit

def awS : Bs := [112, 114, 111, 116, 111, 99, 111, 108, 32, 80, 40, 65, 44, 66, 41, 123, 109, 101, 115, 115, 97, 103, 101, 32, 109, 40, 120, 58, 105, 110, 116, 32, 49, 46, 46, 53, 41, 119, 104, 101, 114, 101, 32, 120, 60, 110, 46, 121, 43, 49, 59, 65, 45, 62, 66, 58, 109, 59, 125]
def awP : Pr := ⟨[80], [[65], [66]], [⟨[109], [⟨[120], 1, 1, 5⟩], [⟨⟨2, [], [120], 0⟩, [60], ⟨2, [110], [121], 1⟩⟩]⟩], [.mk 1 [65] [[66]] [109] [] 0 []]⟩
def awC : Bs := [112, 114, 111, 116, 111, 99, 111, 108, 32, 80, 40, 65, 44, 32, 66, 41, 32, 123, 10, 9, 109, 101, 115, 115, 97, 103, 101, 32, 109, 40, 120, 58, 32, 105, 110, 116, 32, 49, 46, 46, 53, 41, 32, 119, 104, 101, 114, 101, 32, 120, 32, 60, 32, 110, 46, 121, 32, 43, 32, 49, 59, 10, 9, 65, 32, 45, 62, 32, 66, 58, 32, 109, 59, 10, 125, 10]
def awT : List Tok := (full awS).1
set_option maxRecDepth 100000 in
theorem aw_tok : (full awS).2 = (0, 0) := by kernel_rfl
set_option maxRecDepth 100000 in
theorem aw_src : sourceP awS.length ⟨(full awS).1, 0, 0⟩ = ([awP], ⟨[], 0, 0⟩) := by kernel_rfl
set_option maxRecDepth 100000 in
theorem aw_canon : canonB [awP] = awC := by kernel_rfl
set_option maxRecDepth 100000 in
theorem aw_all : alB vpB 0 10 [awP] = true := by kernel_rfl
theorem aw_valid : vB [awP] = true := by
 unfold vB; rw [aw_all, aw_canon]; rfl
theorem aw_parse : parseB awS = ([awP], 0, 0) := by
 unfold parseB
 rw [show (full awS).2.2 = 0 by rw [aw_tok]]
 rw [aw_src, aw_valid]
 rfl
/- Layer 10: what is valid can be compared. -/
open Go.RowKit

mutual
theorem SmIt.td : ∀ x : It, SmIt x → tdIt x
 | .mk k fr to nm al tk bl => by
  intro h
  rw [SmIt] at h
  rw [tdIt]
  exact ⟨by have := h.2.1.1; omega, SmBl.td bl h.2.2.2.2.2.2.2⟩
theorem SmIs.td : ∀ l : List It, SmIs l → tdIs l
 | [] => fun _ => by rw [tdIs]; trivial
 | x :: r => fun h => by rw [SmIs] at h; rw [tdIs]; exact ⟨SmIt.td x h.1, SmIs.td r h.2⟩
theorem SmBl.td : ∀ l : List (List It), SmBl l → tdBl l
 | [] => fun _ => by rw [tdBl]; trivial
 | x :: r => fun h => by rw [SmBl] at h; rw [tdBl]; exact ⟨SmIs.td x h.1, SmBl.td r h.2⟩
end
theorem SmPr.gq {p : Pr} (h : SmPr p) : GQ p :=
 ⟨by have := h.rl; omega, by have := h.ml; omega, fun m hm => ⟨by have := (h.ms m hm).fl; omega, by have := (h.ms m hm).wl; omega⟩, SmIs.td _ h.bd, by have := h.bn; omega⟩
theorem vB_gq {l : List Pr} (h : vB l = true) : (∀ p ∈ l, GQ p) ∧ l.length ≤ 10 := by
 unfold vB at h
 rw [Bool.and_eq_true] at h
 have h1 := vall_sm h.1
 have h2 := al_iff h.1
 exact ⟨fun p hp => (h1.1 p hp).gq, by omega⟩
/- Layer 10: the contract of awake. -/
open Go.RowKit

section
variable {w w' : World} {S : Nat → Prop}
theorem aw_p (ht : Tb w) (hg : gT < w.heap.size) : Calls Tryz.prog 14 #[.string ⟨#[112, 114, 111, 116, 111, 99, 111, 108, 32, 80, 40, 65, 44, 66, 41, 123, 109, 101, 115, 115, 97, 103, 101, 32, 109, 40, 120, 58, 105, 110, 116, 32, 49, 46, 46, 53, 41, 119, 104, 101, 114, 101, 32, 120, 60, 110, 46, 121, 43, 49, 59, 65, 45, 62, 66, 58, 109, 59, 125]⟩] w fun e w' => ∃ ad c, e = .returned (.tuple #[.slice (some ad) 1 c, .int .i64 0, .int .i64 0]) ∧ Lies w' (fun k => w.heap.size ≤ k) (.slice (some ad) 1 c) (.s 4 ([awP].flatMap dP)) ∧ Below w.heap.size w w' := by
 have h := parse_any ht hg awS
 rw [aw_parse] at h
 refine Calls.mono (show Calls Tryz.prog 14 #[.string ⟨#[112, 114, 111, 116, 111, 99, 111, 108, 32, 80, 40, 65, 44, 66, 41, 123, 109, 101, 115, 115, 97, 103, 101, 32, 109, 40, 120, 58, 105, 110, 116, 32, 49, 46, 46, 53, 41, 119, 104, 101, 114, 101, 32, 120, 60, 110, 46, 121, 43, 49, 59, 65, 45, 62, 66, 58, 109, 59, 125]⟩] w (ParsePost w ([awP], 0, 0)) from h) ?_
 rintro e w' ⟨v, rfl, L, hb⟩
 obtain ⟨b, o, n, c, rfl, hn, -⟩ := sl_cell L (by intro h; have := congrArg List.length h; simp [dP] at this)
 have : n = 1 := by simp [dP] at hn; omega
 subst this
 exact ⟨_, c, rfl, L, hb⟩
theorem aw_q (ht : Tb w) (hg : gT < w.heap.size) (v : Value) (L : Lies w S v (.s 4 ([awP].flatMap dP))) : Calls Tryz.prog 20 #[v] w fun e w' => e = .returned (.tuple #[.string (ofL awC), .int .i64 0]) ∧ Below w.heap.size w w' := by
 refine (print_any ht hg [awP] v L).mono ?_
 rintro e w' ⟨rfl, hb⟩
 exact ⟨by rw [aw_valid, aw_canon]; rfl, hb⟩
set_option maxRecDepth 20000 in
set_option maxHeartbeats 4000000 in
theorem awake_any (ht : Tb w) (hg : gT < w.heap.size) : Calls Tryz.prog 13 #[] w fun e w' => e = .returned (.bool true) ∧ Below w.heap.size w w' := by
 have HT := Lib.hid ht
 have HG := Lib.hid hg
 clear ht hg
 go_enter Tryz.func13, Tryz.ntmps13
 go_wp2_with fail
 refine (aw_p HT.out HG.out).mono ?_; rintro e w3 ⟨ad, c, rfl, L3, hb3⟩
 have B3 := Lib.hid hb3
 have M3 := Lib.hid L3
 clear hb3 L3
 go_wp2_with fail
 refine (aw_q (HT.out.below B3.out) (Nat.lt_of_lt_of_le HG.out B3.out.size) _ M3.out).mono ?_; rintro e w4 ⟨rfl, hb4⟩
 have B4 := Lib.hid (B3.out.trans (hb4.mono B3.out.size))
 have M4 := Lib.hid (M3.out.belowT hb4)
 clear hb4
 have htl : (ofL awC).toList = [112, 114, 111, 116, 111, 99, 111, 108, 32, 80, 40, 65, 44, 32, 66, 41, 32, 123, 10, 9, 109, 101, 115, 115, 97, 103, 101, 32, 109, 40, 120, 58, 32, 105, 110, 116, 32, 49, 46, 46, 53, 41, 32, 119, 104, 101, 114, 101, 32, 120, 32, 60, 32, 110, 46, 121, 32, 43, 32, 49, 59, 10, 9, 65, 32, 45, 62, 32, 66, 58, 32, 109, 59, 10, 125, 10] := ofL_toList awC
 go_wp2_with fail
 refine (valid_any (HT.out.below B4.out) (Nat.lt_of_lt_of_le HG.out B4.out.size) [awP] _ M4.out).mono ?_; rintro e w5 ⟨rfl, hb5⟩; rw [aw_valid]
 have B5 := Lib.hid (B4.out.trans (hb5.mono B4.out.size))
 have M5 := Lib.hid (M4.out.belowT hb5)
 clear hb5
 go_wp2_with fail
 refine (equal_any [awP] [awP] _ _ M5.out M5.out (vB_gq aw_valid).1 (vB_gq aw_valid).1 (by decide)).mono ?_; rintro e w6 ⟨rfl, hb6⟩; rw [eqL_prw.2 rfl]
 have B6 := Lib.hid (B5.out.trans (hb6.mono B5.out.size))
 clear hb6
 go_wp2_with fail
 go_ret
 exact ⟨rfl, B6.out⟩
end
/- Layer 10: the walk of SyntaxEqual. -/
open Go.RowKit

section
variable {w w' : World}
theorem mono_nw {N B C : Nat} {v : Value} {d : D} (h : B ≤ C) (L : Lies w (Nw N C) v d) : Lies w (Nw N B) v d := L.mono fun _ _ hk => hk.imp id fun hk => Nat.le_trans h hk
set_option maxRecDepth 20000 in
set_option maxHeartbeats 8000000 in
theorem syntaxequal_walk (ht : Tb w) (hg : gT < w.heap.size) (l m : List Pr) (ls : Bs) (v u : Value) (L : Lir w (fun k => k < w.heap.size) v (.s 4 (l.flatMap dP))) (M : Lir w (fun k => k < w.heap.size) u (.s 4 (m.flatMap dP)))
  (hgl : ∀ p ∈ l, GR p) (hgm : ∀ p ∈ m, GR p) (hl : l.length ≤ 1000000000) (hm : m.length ≤ 1000000000) :
  Calls Tryz.prog 5 #[v, u, .string (ofL ls)] w fun e w' => e = .returned (.bool true) ∧ Below w.heap.size w w' := by
 have HT := Lib.hid ht
 have HG := Lib.hid hg
 have HL := Lib.hid L
 have HM := Lib.hid M
 have GL := Lib.hid hgl
 have GM := Lib.hid hgm
 obtain ⟨A, n, c, rfl, -⟩ := L.slc
 obtain ⟨A2, n2, c2, rfl, -⟩ := M.slc
 obtain ⟨s, hs⟩ : ∃ s, s = ofL ls := ⟨_, rfl⟩
 have hsz : s.size = ls.length := by rw [hs, ofL_size]
 rw [← hs]
 have HS := Lib.hid hs
 have HLL := Lib.hid hl
 have HML := Lib.hid hm
 clear ht hg L M hgl hgm hs hl hm
 by_cases h8 : ls.length ≤ 200
 rotate_left
 ·have hc : (200 : Int) < (s.size : Int) := by omega
  clear hsz h8
  go_enter Tryz.func5, Tryz.ntmps5
  go_wp2_with fail
  refine (awake_any HT.out HG.out).mono ?_; rintro e w3 ⟨rfl, hb3⟩
  have B3 := Lib.hid hb3
  clear hb3
  go_wp2_with fail
  refine (few_any l w3 _ _ GL.out HLL.out (HL.out.belowT B3.out)).mono ?_; rintro e w4 ⟨⟨b1, rfl⟩, rfl⟩
  cases b1 with
  | false =>
   go_wp2_with fail
   refine (awake_any (HT.out.below B3.out) (Nat.lt_of_lt_of_le HG.out B3.out.size)).mono ?_; rintro e w9 ⟨rfl, hb9⟩
   have B9 := Lib.hid (B3.out.trans (hb9.mono B3.out.size))
   clear hb9
   go_wp2_with fail
   go_ret
   exact ⟨rfl, B9.out⟩
  | true =>
   go_wp2_with fail
   refine (few_any m w3 _ _ GM.out HML.out (HM.out.belowT B3.out)).mono ?_; rintro e w5 ⟨⟨b2, rfl⟩, rfl⟩
   cases b2 with
   | false =>
    go_wp2_with fail
    refine (awake_any (HT.out.below B3.out) (Nat.lt_of_lt_of_le HG.out B3.out.size)).mono ?_; rintro e w9 ⟨rfl, hb9⟩
    have B9 := Lib.hid (B3.out.trans (hb9.mono B3.out.size))
    clear hb9
    go_wp2_with fail
    go_ret
    exact ⟨rfl, B9.out⟩
   | true =>
    go_wp2_with fail
    refine (awake_any (HT.out.below B3.out) (Nat.lt_of_lt_of_le HG.out B3.out.size)).mono ?_; rintro e w9 ⟨rfl, hb9⟩
    have B9 := Lib.hid (B3.out.trans (hb9.mono B3.out.size))
    clear hb9
    go_wp2_with fail
    go_ret
    exact ⟨rfl, B9.out⟩
 have hc : ¬ (200 : Int) < (s.size : Int) := by omega
 have H8 := Lib.hid h8
 clear hsz h8
 obtain ⟨q, hq⟩ : ∃ q, eqL prw l m = q := ⟨_, rfl⟩
 have HQ := Lib.hid hq
 clear hq
 go_enter Tryz.func5, Tryz.ntmps5
 go_wp2_with fail
 refine (awake_any HT.out HG.out).mono ?_; rintro e w3 ⟨rfl, hb3⟩
 have B3 := Lib.hid hb3
 clear hb3
 go_wp2_with fail
 refine (few_any l w3 _ _ GL.out HLL.out (HL.out.belowT B3.out)).mono ?_; rintro e w4 ⟨⟨b1, rfl⟩, rfl⟩
 cases b1 with
 | false =>
  go_wp2_with fail
  refine (awake_any (HT.out.below B3.out) (Nat.lt_of_lt_of_le HG.out B3.out.size)).mono ?_; rintro e w9 ⟨rfl, hb9⟩
  have B9 := Lib.hid (B3.out.trans (hb9.mono B3.out.size))
  clear hb9
  go_wp2_with fail
  go_ret
  exact ⟨rfl, B9.out⟩
 | true =>
  go_wp2_with fail
  refine (few_any m w3 _ _ GM.out HML.out (HM.out.belowT B3.out)).mono ?_; rintro e w5 ⟨⟨b2, rfl⟩, rfl⟩
  cases b2 with
  | false =>
   go_wp2_with fail
   refine (awake_any (HT.out.below B3.out) (Nat.lt_of_lt_of_le HG.out B3.out.size)).mono ?_; rintro e w9 ⟨rfl, hb9⟩
   have B9 := Lib.hid (B3.out.trans (hb9.mono B3.out.size))
   clear hb9
   go_wp2_with fail
   go_ret
   exact ⟨rfl, B9.out⟩
  | true =>
   go_wp2_with fail
   refine (own_any l w3 _ w.heap.size GL.out HLL.out B3.out.size (HL.out.belowT B3.out)).mono ?_; rintro e w4 ⟨v4, rfl, L4, hb4⟩
   obtain ⟨A4, n4, c4, rfl, -⟩ := L4.slc
   have K4 := Lib.hid L4
   have B4 := Lib.hid (B3.out.trans (hb4.mono B3.out.size))
   have S4 := Lib.hid hb4.size
   clear hb4 L4
   go_wp2_with fail
   refine (own_any m w4 _ w.heap.size GM.out HML.out B4.out.size (HM.out.belowT B4.out)).mono ?_; rintro e w5 ⟨v5, rfl, L5, hb5⟩
   obtain ⟨A5, n5, c5, rfl, -⟩ := L5.slc
   have B5 := Lib.hid (B4.out.trans (hb5.mono B4.out.size))
   have HC := Lib.hid (equal_any l m _ _ (K4.out.belowT hb5) (mono_nw S4.out L5) (fun p hp => (GL.out p hp).gq) (fun p hp => (GM.out p hp).gq) HLL.out)
   clear hb5 L5
   go_wp2_with fail
   refine HC.out.mono ?_; rintro e w6 ⟨rfl, hb6⟩; rw [HQ.out]
   have B6 := Lib.hid (B5.out.trans (hb6.mono B5.out.size))
   clear hb6 HC
   go_wp2_with fail
   refine (requal_any l m _ _ (HL.out.belowT B6.out) (HM.out.belowT B6.out) HLL.out GL.out).mono ?_; rintro e w7 ⟨rfl, hb7⟩; rw [HQ.out]
   have B7 := Lib.hid (B6.out.trans (hb7.mono B6.out.size))
   clear hb7
   have hqq : (q == q) = true := by cases q <;> rfl
   go_wp2_with fail
   refine (own_any l w7 _ w.heap.size GL.out HLL.out B7.out.size (HL.out.belowT B7.out)).mono ?_; rintro e w4 ⟨v4, rfl, L4, hb4⟩
   obtain ⟨A6, n6, c6, rfl, -⟩ := L4.slc
   have K6 := Lib.hid L4
   have B8 := Lib.hid (B7.out.trans (hb4.mono B7.out.size))
   have S8 := Lib.hid hb4.size
   clear hb4 L4
   go_wp2_with fail
   refine (own_any l w4 _ w.heap.size GL.out HLL.out B8.out.size (HL.out.belowT B8.out)).mono ?_; rintro e w5 ⟨v5, rfl, L5, hb5⟩
   obtain ⟨A7, n7, c7, rfl, -⟩ := L5.slc
   have B9 := Lib.hid (B8.out.trans (hb5.mono B8.out.size))
   have HC := Lib.hid (equal_any l l _ _ (K6.out.belowT hb5) (mono_nw S8.out L5) (fun p hp => (GL.out p hp).gq) (fun p hp => (GL.out p hp).gq) HLL.out)
   clear hb5 L5
   go_wp2_with fail
   refine HC.out.mono ?_; rintro e w6 ⟨rfl, hb6⟩; rw [(eqL_iff (fun _ _ => prw_iff)).2 rfl]
   have B10 := Lib.hid (B9.out.trans (hb6.mono B9.out.size))
   clear hb6 HC
   go_wp2_with fail
   have HI := isPath_any ls w6
   rw [← HS.out] at HI
   refine HI.mono ?_; rintro e w7 ⟨rfl, hb7⟩
   have B11 := Lib.hid (B10.out.trans (hb7.mono B10.out.size))
   clear hb7 HI
   go_wp2_with fail
   have HI := risPath_any ls w7 (Nat.le_trans H8.out (by decide))
   rw [← HS.out] at HI
   refine HI.mono ?_; rintro e w8 ⟨rfl, hb8⟩
   have B12 := Lib.hid (B11.out.trans (hb8.mono B11.out.size))
   clear hb8 HI
   have hpp : (paB ls == paB ls) = true := by cases paB ls <;> rfl
   go_wp2_with fail
   go_ret
   exact ⟨rfl, B12.out⟩
end
/- What the laws of layer 10 are handed: the table of powers of ten, as the row's condition says it. -/
open Go.RowKit

theorem gPowType : ∀ g, Tryz.prog.globalNamed "internal/strconv.uint64pow10" = some g → (Tryz.prog.globals[g]?).map (·.type) = some 299 := by
 intro g hg
 obtain rfl := Option.some.inj ((show Tryz.prog.globalNamed "internal/strconv.uint64pow10" = some 3 by kernel_rfl).symm.trans hg)
 kernel_rfl
set_option maxRecDepth 100000 in
theorem tb_of_laid {W : World} (h : laidMetH Tryz.prog Rows.syntaxFirstRow.laid W) : Tb W := by
 rw [MakeChecks.laidMetH_plain _ _ _ (by kernel_rfl)] at h
 obtain ⟨ps, hl, -⟩ := h
 obtain ⟨_, _, _, _, _, q1, -, -, -, -, hl1, -⟩ := hl
 obtain ⟨_, _, _, _, _, q2, -, -, -, -, hl2, -⟩ := hl1
 obtain ⟨g, t, cs, fuel, p, q, hg, ht, hv, hd, -, -⟩ := hl2
 have ht2 := gPowType g hg
 obtain rfl := Option.some.inj (ht2.symm.trans ht)
 have hc := Lib.cells_of_tab (k := .u64) (zs := Lib.pow10Tab) (n := 20) (e := 293) (by kernel_rfl) (by kernel_rfl) (by kernel_rfl) (by kernel_rfl) hd
 show W.var? Tryz.prog "internal/strconv.uint64pow10" = _
 rw [hv, ← hc]
end Go.Proofs.YtekpefcggikcbaaGreatDoor
