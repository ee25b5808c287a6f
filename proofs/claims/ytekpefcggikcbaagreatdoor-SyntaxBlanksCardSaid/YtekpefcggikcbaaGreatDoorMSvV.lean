/- Layer 10: the contracts of validProtocol, Valid, Print and Parse. -/
import Derived.Test.YtekpefcggikcbaaGreatDoorMVlM
import Derived.Test.YtekpefcggikcbaaGreatDoorMSynPr
import Derived.Test.YtekpefcggikcbaaGreatDoorMLexTks
import Derived.Test.YtekpefcggikcbaaGreatDoorMLexPl
namespace Go.Proofs.YtekpefcggikcbaaGreatDoor
/- Layer 10: the contracts of validProtocol, Valid, Print and Parse. -/
open Go.RowKit

theorem ent_validMessage : ∀ args w, (callFunc 90 args).run Tryz.prog w = .ok (.enter 90 args) w := enters_of Tryz.func90 (by kernel_rfl) rfl
theorem ent_validProtocol : ∀ args w, (callFunc 48 args).run Tryz.prog w = .ok (.enter 48 args) w := enters_of Tryz.func48 (by kernel_rfl) rfl
section
variable {w w' : World} {S T : Nat → Prop}
set_option maxHeartbeats 8000000 in
theorem validProtocol_any (p : Pr) (v : Value) (hR : RPr S w p v) : Calls Tryz.prog 48 #[v] w (Tells w (.bool (vpB p))) := by
  obtain ⟨v1, v2, v3, rfl, L1, L2, L3⟩ := hR
  obtain ⟨A1, n1, c1, rfl, -⟩ := Lies.slc (show Lies w S v1 (.s 1 (p.rs.flatMap fun x => [dS x])) from L1)
  obtain ⟨A2, n2, c2, rfl, -⟩ := L2.slc
  obtain ⟨A3, n3, c3, rfl, -⟩ := Lies.slc (show Lies w S v3 (.s 7 (dIs p.bd)) from L3)
  obtain ⟨nm, rs, ms, bd⟩ := p
  obtain ⟨W0, hW0⟩ : ∃ W, (w.alloc (.cells #[.string (ofL nm), .slice A1 n1 c1, .slice A2 n2 c2, .slice A3 n3 c3] 59)).alloc (.cells #[.int .i64 300] 3) = W := ⟨_, rfl⟩
  have B1 := Lib.hid (show Below w.heap.size w W0 by rw [← hW0]; exact ((Below.refl _ w).alloc (Nat.le_refl _) _).alloc (by simp) _)
  have X1 := Lib.hid (show Bx W0 w.heap.size 59 #[.string (ofL nm), .slice A1 n1 c1, .slice A2 n2 c2, .slice A3 n3 c3] by rw [← hW0]; exact (Bx.new w _ _).alloc _)
  have X2 := Lib.hid (show Bx W0 (w.heap.size + 1) 3 #[.int .i64 300] by rw [← hW0]; exact Bx.new2 (size_alloc _ _))
  have M1 := Lib.hid (show Lies W0 S (.slice A1 n1 c1) (dL rs) from L1.belowT B1.out)
  have M2 := Lib.hid (show Lies W0 S (.slice A2 n2 c2) (.s 3 (ms.flatMap dM)) from L2.belowT B1.out)
  have M3 := Lib.hid (show Lies W0 (fun k => S k ∧ k < w.heap.size) (.slice A3 n3 c3) (dB bd) from (show Lies w (fun k => S k ∧ k < w.heap.size) (.slice A3 n3 c3) (dB bd) from L3.mono fun k hk hS => ⟨hS, hk⟩).belowT B1.out)
  have HW0 := Lib.hid hW0
  clear hW0 L1 L2 L3
  obtain ⟨p0, p1, p2, p3⟩ := X1.out.k4
  cases hc0 : wdB nm with
  | false =>
    have H := Lib.hid (show false = vpB ⟨nm, rs, ms, bd⟩ by unfold vpB; simp [hc0])
    have HC0 := Lib.hid hc0
    clear hc0
    go_enter Tryz.func48, Tryz.ntmps48
    go_wp2_with fail
    rw [HW0.out]
    refine (isWord_any _ _).mono ?_; rintro e w2 ⟨rfl, rfl⟩; rw [HC0.out]
    go_wp2_with fail
    go_ret
    exact ⟨by rw [H.out]; rfl, B1.out⟩
  | true =>
    cases hc1 : alB wdB 1 6 rs with
    | false =>
      have H := Lib.hid (show false = vpB ⟨nm, rs, ms, bd⟩ by unfold vpB; simp [hc0, hc1])
      have HC0 := Lib.hid hc0
      have HC1 := Lib.hid hc1
      clear hc0 hc1
      go_enter Tryz.func48, Tryz.ntmps48
      go_wp2_with fail
      rw [HW0.out]
      refine (isWord_any _ _).mono ?_; rintro e w2 ⟨rfl, rfl⟩; rw [HC0.out]
      go_wp2_with fail
      refine (allS_any _ wdB isWord_q 1 6 rs _ M1.out (by decide)).mono ?_; rintro e w3 ⟨rfl, hb3⟩; rw [HC1.out]
      have B3 := Lib.hid (B1.out.trans (hb3.mono B1.out.size))
      have Y1 := X1.out.below hb3
      have q2 : w3.cell? ⟨w.heap.size, 2, none⟩ = some (.slice A2 n2 c2) := Y1.cell 2
      have G3 := Lib.hid hb3
      clear hb3 Y1
      go_wp2_with fail
      go_ret
      exact ⟨by rw [H.out]; rfl, B3.out⟩
    | true =>
      cases hc2 : alB vmB 0 40 ms with
      | false =>
        have H := Lib.hid (show false = vpB ⟨nm, rs, ms, bd⟩ by unfold vpB; simp [hc0, hc1, hc2])
        have HC0 := Lib.hid hc0
        have HC1 := Lib.hid hc1
        have HC2 := Lib.hid hc2
        clear hc0 hc1 hc2
        go_enter Tryz.func48, Tryz.ntmps48
        go_wp2_with fail
        rw [HW0.out]
        refine (isWord_any _ _).mono ?_; rintro e w2 ⟨rfl, rfl⟩; rw [HC0.out]
        go_wp2_with fail
        refine (allS_any _ wdB isWord_q 1 6 rs _ M1.out (by decide)).mono ?_; rintro e w3 ⟨rfl, hb3⟩; rw [HC1.out]
        have B3 := Lib.hid (B1.out.trans (hb3.mono B1.out.size))
        have Y1 := X1.out.below hb3
        have q2 : w3.cell? ⟨w.heap.size, 2, none⟩ = some (.slice A2 n2 c2) := Y1.cell 2
        have G3 := Lib.hid hb3
        clear hb3 Y1
        go_wp2_with fail
        refine (allM_any _ vmB (S := S) ⟨ent_validMessage, fun _ x v h => validMessage_any x v h⟩ 0 40 ms _ (M2.out.belowT G3.out) (by decide)).mono ?_; rintro e w4 ⟨rfl, hb4⟩; rw [HC2.out]
        have B4 := Lib.hid (B3.out.trans (hb4.mono B3.out.size))
        have G4 := Lib.hid (G3.out.trans (hb4.mono G3.out.size))
        have Y2 := X1.out.below G4.out
        have r3 : w4.cell? ⟨w.heap.size, 3, none⟩ = some (.slice A3 n3 c3) := Y2.cell 3
        clear hb4 Y2
        go_wp2_with fail
        go_ret
        exact ⟨by rw [H.out]; rfl, B4.out⟩
      | true =>
        have H := Lib.hid (show (visI 0 300 bd).isSome = vpB ⟨nm, rs, ms, bd⟩ by unfold vpB; simp [hc0, hc1, hc2])
        have HC0 := Lib.hid hc0
        have HC1 := Lib.hid hc1
        have HC2 := Lib.hid hc2
        clear hc0 hc1 hc2
        go_enter Tryz.func48, Tryz.ntmps48
        go_wp2_with fail
        rw [HW0.out]
        refine (isWord_any _ _).mono ?_; rintro e w2 ⟨rfl, rfl⟩; rw [HC0.out]
        go_wp2_with fail
        refine (allS_any _ wdB isWord_q 1 6 rs _ M1.out (by decide)).mono ?_; rintro e w3 ⟨rfl, hb3⟩; rw [HC1.out]
        have B3 := Lib.hid (B1.out.trans (hb3.mono B1.out.size))
        have Y1 := X1.out.below hb3
        have q2 : w3.cell? ⟨w.heap.size, 2, none⟩ = some (.slice A2 n2 c2) := Y1.cell 2
        have G3 := Lib.hid hb3
        clear hb3 Y1
        go_wp2_with fail
        refine (allM_any _ vmB (S := S) ⟨ent_validMessage, fun _ x v h => validMessage_any x v h⟩ 0 40 ms _ (M2.out.belowT G3.out) (by decide)).mono ?_; rintro e w4 ⟨rfl, hb4⟩; rw [HC2.out]
        have B4 := Lib.hid (B3.out.trans (hb4.mono B3.out.size))
        have G4 := Lib.hid (G3.out.trans (hb4.mono G3.out.size))
        have Y2 := X1.out.below G4.out
        have r3 : w4.cell? ⟨w.heap.size, 3, none⟩ = some (.slice A3 n3 c3) := Y2.cell 3
        clear hb4 Y2
        go_wp2_with fail
        refine (validItems_any (w.heap.size + 1) 0 300 bd _ (X2.out.below G4.out) (M3.out.belowT G4.out) (by intro h; omega) (by decide) (by decide) (by decide)).mono ?_
        rintro e w5 ⟨O5, (⟨hr, rfl⟩ | ⟨l1, hr, -, -, rfl, -⟩)⟩
        · have B5 := Lib.hid (B4.out.trans (O5.toBelow (B := w.heap.size) (by omega) B4.out.size))
          have HF := Lib.hid (show false = vpB ⟨nm, rs, ms, bd⟩ by rw [← H.out, hr]; rfl)
          clear O5 hr
          go_wp2_with fail
          go_ret
          exact ⟨by rw [← HF.out]; rfl, B5.out⟩
        · have B5 := Lib.hid (B4.out.trans (O5.toBelow (B := w.heap.size) (by omega) B4.out.size))
          have HF := Lib.hid (show true = vpB ⟨nm, rs, ms, bd⟩ by rw [← H.out, hr]; rfl)
          clear O5 hr
          go_wp2_with fail
          go_ret
          exact ⟨by rw [← HF.out]; rfl, B5.out⟩
set_option maxHeartbeats 8000000 in
theorem valid_any (ht : Tb w) (hg : gT < w.heap.size) (ps : List Pr) (v : Value) (L : Lies w S v (.s 4 (ps.flatMap dP))) :
    Calls Tryz.prog 18 #[v] w (Tells w (.bool (vB ps))) := by
  obtain ⟨A, m, c, rfl, -⟩ := L.slc
  have HT := Lib.hid ht
  have HG := Lib.hid hg
  have LL := Lib.hid L
  clear ht hg L
  cases hc0 : alB vpB 0 10 ps with
  | false =>
    have H := Lib.hid (show false = vB ps by unfold vB; simp [hc0])
    have HC0 := Lib.hid hc0
    clear hc0
    go_enter Tryz.func18, Tryz.ntmps18
    go_wp2_with fail
    refine (allP_any _ vpB (S := S) ⟨ent_validProtocol, fun _ x v h => validProtocol_any x v h⟩ 0 10 ps _ LL.out (by decide)).mono ?_; rintro e w3 ⟨rfl, hb3⟩; rw [HC0.out]
    have B3 := Lib.hid hb3
    clear hb3
    go_wp2_with fail
    go_ret
    exact ⟨by rw [H.out]; rfl, B3.out⟩
  | true =>
    have HS := Lib.hid (vall_sm hc0)
    have H := Lib.hid (show decide ((canonB ps).length ≤ 8000) = vB ps by unfold vB; simp [hc0])
    have HC0 := Lib.hid hc0
    clear hc0
    obtain ⟨s, hs⟩ : ∃ s, ofL (canonB ps) = s := ⟨_, rfl⟩
    have hsz : s.size = (canonB ps).length := by rw [← hs, ofL_size]
    have HSZ := Lib.hid hsz
    have HSE := Lib.hid hs
    clear hs hsz
    have HF := Lib.hid (show decide ((s.size : Int) ≤ 8000) = vB ps by rw [← H.out, ← HSZ.out, decide_eq_decide]; omega)
    go_enter Tryz.func18, Tryz.ntmps18
    go_wp2_with fail
    refine (allP_any _ vpB (S := S) ⟨ent_validProtocol, fun _ x v h => validProtocol_any x v h⟩ 0 10 ps _ LL.out (by decide)).mono ?_; rintro e w3 ⟨rfl, hb3⟩; rw [HC0.out]
    have B3 := Lib.hid hb3
    clear hb3
    go_wp2_with fail
    refine (canon_any (S := fun k => S k ∧ k < w.heap.size) (HT.out.below B3.out) (Nat.lt_of_lt_of_le HG.out B3.out.size) ps HS.out.1 _ ((show Lies w (fun k => S k ∧ k < w.heap.size) _ _ from LL.out.mono fun k hk hS => ⟨hS, hk⟩).belowT B3.out) (fun k hk => Nat.lt_of_lt_of_le hk.2 B3.out.size) HS.out.2.1 HS.out.2.2).mono ?_; rintro e w4 ⟨rfl, hb4⟩; rw [HSE.out]
    have B4 := Lib.hid (B3.out.trans (hb4.mono B3.out.size))
    clear hb4
    go_wp2_with fail
    go_ret
    exact ⟨by rw [← HF.out]; rfl, B4.out⟩
end
/- Layer 9: the contract of Tokens, with where the tokens lie. -/
open Go.RowKit

def TkoPost (w : World) (r : Res) (e : Ending) (w' : World) : Prop :=
  ∃ v, e = .returned (.tuple #[v, .int .i64 (r.2.1 : Int), .int .i64 (r.2.2 : Int)]) ∧ Toks w' v r.1 ∧ Below w.heap.size w w' ∧ ∀ b, v.ownBlock = some b → b < w'.heap.size
theorem TkoPost.mk {w w' : World} {r : Res} {e : Ending} {v : Value} {ts : List Tok} {a x : Nat} (hr : r = (ts, a, x)) (he : e = .returned (.tuple #[v, .int .i64 (a : Int), .int .i64 (x : Int)])) (ht : Toks w' v ts) (hb : Below w.heap.size w w') (ho : ∀ b, v.ownBlock = some b → b < w'.heap.size) : TkoPost w r e w' := by
  subst hr; exact ⟨v, he, ht, hb, ho⟩
theorem nil_own {w : World} : ∀ b, (Value.slice none 0 0).ownBlock = some b → b < w.heap.size := by intro b hb; cases hb
theorem own_lt {w : World} {B e z n : Nat} {v : Value} {xs : List Value} (h : w.ownsRow B e z v n xs) : ∀ b, v.ownBlock = some b → b < w.heap.size := by
  intro b hb
  rcases h.2 with ⟨rfl, _⟩ | ⟨g, cap, cur, rfl, _, hh, _⟩
  · cases hb
  · cases hb; exact lt_of_some hh
set_option maxRecDepth 20000 in
set_option maxHeartbeats 1000000 in
theorem tokens_own (l : List UInt8) (w : World) : Calls Tryz.prog 27 #[.string (ofL l)] w (TkoPost w (full l)) := by
  obtain ⟨s, hs⟩ : ∃ s, s = ofL l := ⟨_, rfl⟩
  have hsz : s.size = l.length := by rw [hs, ofL_size]
  by_cases hbig : 8000 < l.length
  · have hT := Lib.hid (show full l = ([], 8000, 6) by unfold full; rw [if_pos hbig])
    have hb2 : 8000 < s.size := by omega
    rw [← hs]
    clear hs hsz hbig
    go_enter Tryz.func27, Tryz.ntmps27
    go_wp2
    refine bodyPost_ret (v := .tuple #[.slice none 0 0, .int .i64 8000, .int .i64 6]) (by simp [results, Tryz.results27, go_sem]) rfl ?_
    exact TkoPost.mk hT.out rfl (Toks.nil _) (Below.refl _ _) nil_own
  · have hT := Lib.hid (show full l = lxs 0 l by unfold full; rw [if_neg hbig])
    have hb2 : ¬ 8000 < s.size := by omega
    rw [← hs]
    have hroom : l.length ≤ 8000 := by omega
    have S0 : Hid (Scn (w.alloc (.cells #[.string s, .int .i64 0] 119)) w.heap.size l 0) := ⟨by rw [hs]; exact heap_alloc_new w _, by omega, hroom⟩
    have B0 : Hid (Below w.heap.size w (w.alloc (.cells #[.string s, .int .i64 0] 119))) := (Below.refl _ _).alloc (Nat.le_refl _) _
    clear hs hsz hbig
    go_enter Tryz.func27, Tryz.ntmps27
    go_wp2_with fail
    refine (skip_any S0.out).mono ?_; rintro e w1 ⟨rfl, S1, O1⟩
    have HS1 := Lib.hid S1
    have HB1 := Lib.hid (B0.out.trans (O1.toBelow (Nat.le_refl _) (by simp)))
    clear S1 O1 S0 B0
    go_wp2
    go_loopg [2, 6, 7, 8, 9] (l.length) (fun gk v _ _ _ _ wr => TkRel w l gk v wr)
    case atStart =>
      refine ⟨0 + sk false (l.drop 0), [], by omega, by simp, HS1, HB1, World.ownsRow_nil _ _ _ _, ?_, ?_⟩
      · unfold Hid
        rw [prep_nil, Nat.zero_add, List.drop_zero]
        have := lxs_skip 0 l
        rwa [Nat.zero_add] at this
      · unfold Hid
        rw [Nat.zero_add, List.drop_zero]
        exact sk_idem false l
    case round =>
      clear HS1 HB1
      obtain ⟨k, acc, hgk, hak, HS, HB, HV, HL, HK⟩ := hrel
      have hk8 := HS.out.off
      by_cases hend : k = l.length
      · have he := Lib.hid (show full l = (acc, 0, 0) by
          rw [hT.out, HL.out, lxs_end (by rw [HK.out, List.length_drop]; omega)]
          simp [prep])
        have hd : decide (k = l.length) = true := by simpa using hend
        have HE := Lib.hid hend
        clear hend
        go_wp2_with fail
        refine (ended_any HS.out).mono ?_; rintro e w2 ⟨rfl, m, rfl⟩
        go_wp2_with fail
        refine bodyPost_ret (v := .tuple #[u2, .int .i64 0, .int .i64 0]) (by simp [results, Tryz.results27, go_sem]) rfl ?_
        exact TkoPost.mk he.out rfl ((Toks.of_own HV.out).below (below_drewN (Below.refl _ _) m)) (below_drewN HB.out m) (own_lt HV.out)
      · have hd : decide (k = l.length) = false := by simpa using hend
        have hkl : k < l.length := by omega
        clear hend
        go_wp2_with fail
        refine (ended_any HS.out).mono ?_; rintro e w2 ⟨rfl, m, rfl⟩
        have HS2 := Lib.hid (HS.out.drewN m)
        have HB2 := Lib.hid (below_drewN HB.out m)
        have c1 : (wr.drewN m).cell? ⟨w.heap.size, 1, none⟩ = some (.int .i64 (k : Int)) := HS2.out.cell 1
        go_wp2_with fail
        refine (reader_any HS2.out).mono ?_
        rintro e w3 ⟨K, rfl, ⟨hE, hR⟩, m2, rfl⟩
        have HR := Lib.hid hR
        have HS3 := Lib.hid (HS2.out.drewN m2)
        have HB3 := Lib.hid (below_drewN HB2.out m2)
        have HV3 : Hid (((wr.drewN m).drewN m2).ownsRow (w.heap.size + 1) 48 4 u2 acc.length (acc.flatMap tcells)) := HV.out
        clear hR c1
        generalize hw3 : (wr.drewN m).drewN m2 = w3 at *
        clear hw3 HS2 HB2
        cases htk : tk (l.drop k) with
        | err x =>
          have HX := Lib.hid htk
          have he := Lib.hid (show full l = ([], k, x) by
            rw [hT.out, HL.out, lxs_err (e := x) (by rw [HK.out, List.length_drop]; omega) (by rw [HK.out, List.drop_zero]; exact htk), HK.out]
            have := tk_errn htk
            simp [prep, this])
          have hx0 : ((x : Int) != 0) = true := by have := tk_errn htk; simp; omega
          clear htk
          go_wp2_with fail
          refine (HR.out _ HS3.out).mono ?_
          rw [HX.out]
          rintro e w4 ⟨rfl, O4⟩
          unfold tokV
          have hbe := Lib.hid (((HB3.out.trans (O4.toBelow (Nat.le_refl _) HB3.out.size)).alloc (Nat.le_trans HB3.out.size O4.size) (.cells #[.int .i64 0, .string (ofL []), .int .i64 0, .int .i64 0] 48)))
          clear O4
          go_wp2_with fail
          refine bodyPost_ret (v := .tuple #[.slice none 0 0, .int .i64 (k : Int), .int .i64 (x : Int)]) (by simp [results, Tryz.results27, go_sem]) rfl ?_
          exact TkoPost.mk he.out rfl (Toks.nil _) hbe.out nil_own
        | ok kd t v n =>
          have HX := Lib.hid htk
          have htl := tk_len htk
          rw [List.length_drop] at htl
          obtain ⟨hn1, hn2⟩ := htl
          clear htk
          go_wp2_with fail
          refine (HR.out _ HS3.out).mono ?_
          rw [HX.out]
          rintro e w4 ⟨rfl, S4, O4⟩
          unfold tokV
          have ht8 : (ofL t).size ≤ 281474976710656 := by rw [ofL_size]; have := tk_tl HX.out; omega
          have hB4 := Lib.hid (HB3.out.trans (O4.toBelow (Nat.le_refl _) HB3.out.size))
          have hS4 := Lib.hid S4
          have hV4 := Lib.hid (own_keepK HV3.out (fun a ha hb => O4.block a ha (by omega)))
          have hsz4 : w.heap.size + 1 ≤ w4.heap.size := by have := hS4.out.lt; omega
          clear O4 S4
          go_wp2_with fail
          refine (clone_any _ _ ht8).mono ?_
          rintro e w5 ⟨rfl, hb5⟩
          have hT5 := Lib.hid ((TBox.made w4 kd v 0 t).below hb5)
          have hB5 := Lib.hid ((((Below.refl w4.heap.size w4).alloc (Nat.le_refl _) (.cells #[.int .i64 (kd : Int), .string (ofL t), .int .i64 (v : Int), .int .i64 0] 48)).trans (hb5.mono (by simp))))
          obtain ⟨d0, d1, d2, d3, f0, f1, f2, f3⟩ := hT5.out.facts
          have hT7 : Hid (TBox ((w5.setCell ⟨w4.heap.size, 1, none⟩ (.string (ofL t))).setCell ⟨w4.heap.size, 3, none⟩ (.int .i64 (k : Int))) w4.heap.size kd t v k) := (hT5.out.set1 t).set3 k
          have hB7 : Hid (Below w4.heap.size w4 ((w5.setCell ⟨w4.heap.size, 1, none⟩ (.string (ofL t))).setCell ⟨w4.heap.size, 3, none⟩ (.int .i64 (k : Int)))) := (hB5.out.setCell (Nat.le_refl _) _).setCell (Nat.le_refl _) _
          have hz7 : Hid (((w5.setCell ⟨w4.heap.size, 1, none⟩ (.string (ofL t))).setCell ⟨w4.heap.size, 3, none⟩ (.int .i64 (k : Int))).heap.size = w5.heap.size) := by unfold Hid; simp [World.setCell]
          have hS7 := Lib.hid (hS4.out.keep (hB7.out.block _ hS4.out.lt))
          have hV7 := Lib.hid (own_keepK hV4.out (fun a ha _ => hB7.out.block a ha))
          have hBB := Lib.hid (hB4.out.trans (hB7.out.mono hB4.out.size))
          have hsz7 : w.heap.size + 1 ≤ ((w5.setCell ⟨w4.heap.size, 1, none⟩ (.string (ofL t))).setCell ⟨w4.heap.size, 3, none⟩ (.int .i64 (k : Int))).heap.size := Nat.le_trans hsz4 hB7.out.size
          clear hb5
          have hacc : (acc.length + 1) * 40 ≤ 140737488355328 := by omega
          go_wp2_with (at_builtin; refine app4 rfl _ _ 42 rfl 48 _ 40 info_tok Tryz.underlying42 rfl (w.heap.size + 1) _ _ _ rfl hV7.out _ _ _ _ (by rw [hz7.out]; rfl) (by simp [Value.oneCell']) hacc (by omega) hsz7 ?_; intro v' w8 hown8 hf8; have hV8 := Lib.hid hown8; have hF8 := Lib.hid hf8; clear hown8 hf8; have hS8 : Hid (Scn w8 w.heap.size l (k + n)) := ⟨hF8.out.keeps hS7.out.blk (by decide), hS7.out.off, hS7.out.room⟩)
          have hBB8 := Lib.hid (hBB.out.trans ((hF8.out.below hsz7).mono (by omega)))
          refine (skip_any hS8.out).mono ?_
          rintro e w9 ⟨rfl, S9, O9⟩
          have hS9 := Lib.hid S9
          have hV9 := Lib.hid (own_keepK hV8.out (fun a ha hb => O9.block a ha (by omega)))
          have hB9 := Lib.hid (hBB8.out.trans (O9.toBelow (Nat.le_refl _) hBB8.out.size))
          clear S9 O9
          go_wp2_with fail
          go_roundg (gk - n)
          case rel =>
            refine ⟨k + n + sk false (l.drop (k + n)), acc ++ [⟨kd, t, v, k⟩], by omega, by simp; omega, hS9, hB9, ?_, ?_, ?_⟩
            · have h9 := hV9.out
              rw [List.length_append, List.flatMap_append]
              exact h9
            · unfold Hid
              rw [HL.out, lxs_ok (k := kd) (t := t) (v := v) (m := n) (by rw [HK.out, List.length_drop]; omega) (by rw [HK.out, List.drop_zero]; exact HX.out), HK.out, prep_push]
              simp only [Nat.add_zero, List.drop_drop]
              rw [lxs_skip (k + n), List.drop_drop]
            · unfold Hid
              rw [← List.drop_drop]
              exact sk_idem false _
          case measure => omega
/- Layer 10: the contracts of Print and Parse. -/
open Go.RowKit

theorem tk_small {l : List UInt8} {k v m : Nat} {t : List UInt8} (h : tk l = .ok k t v m) : t.length ≤ 40 ∧ v ≤ 999999 := by
  unfold tk at h
  split at h
  · unfold tkName at h
    split at h
    · cases h
    · cases h; exact ⟨by simp; omega, by omega⟩
  split at h
  · unfold tkNum at h
    split at h
    · cases h
    split at h
    · cases h
    · rename_i hd
      cases h
      refine ⟨by simp, ?_⟩
      have h1 := numF_le (l.take (spn cD l)) 0 fun c hc => by
        obtain ⟨j, hj⟩ := List.getElem?_of_mem hc
        have hjl : j < spn cD l := by
          have := (List.getElem?_eq_some_iff.1 hj).1
          rw [List.length_take] at this; omega
        rw [List.getElem?_take, if_pos hjl] at hj
        exact spn_mem hjl hj
      have h2 : 10 ^ (l.take (spn cD l)).length ≤ 10 ^ 6 := Nat.pow_le_pow_right (by decide) (by simp; omega)
      have h3 : (10 : Nat) ^ 6 = 1000000 := by decide
      omega
  split at h
  · unfold tkText at h
    split at h
    · cases h
    · split at h
      · cases h
      · cases h; exact ⟨by omega, by omega⟩
  · unfold tkMark at h
    split at h
    · cases h; exact ⟨by simp; omega, by omega⟩
    split at h
    · cases h; exact ⟨by simp; omega, by omega⟩
    · cases h
theorem lxs_toks : ∀ o l, ∀ t ∈ (lxs o l).1, t.t.length ≤ 40 ∧ t.v ≤ 999999 := by
  refine lxs_ind (P := fun _ _ r => ∀ t ∈ r.1, t.t.length ≤ 40 ∧ t.v ≤ 999999) ?_ ?_ ?_
  · intro o l _ t ht; simp at ht
  · intro o l e _ _ t ht; simp at ht
  · intro o l k t v m _ ht ih u hu
    unfold push at hu
    split at hu
    · simp only [List.mem_cons] at hu
      rcases hu with rfl | hu
      · exact tk_small ht
      · exact ih u hu
    · exact ih u hu
theorem lxs_sm {l : List UInt8} (hl : l.length ≤ 8000) (h0 : (lxs 0 l).2.2 = 0) : SmT (lxs 0 l).1 := by
  refine ⟨Nat.le_trans (lxs_len 0 l) hl, fun t ht => ?_⟩
  obtain ⟨j, hj⟩ := List.getElem?_of_mem ht
  have := (lxs_places 0 l h0).1 j t hj
  have h2 := lxs_toks 0 l t ht
  exact ⟨h2.1, h2.2, by omega⟩
theorem toks_at (s : ByteArray) (l : List UInt8) (hs : s = ofL l) (ts : List Tok) (a x : Nat) (h : full l = (ts, a, x)) (w : World) : Calls Tryz.prog 27 #[.string s] w fun e w' => ∃ v, e = .returned (.tuple #[v, .int .i64 (a : Int), .int .i64 (x : Int)]) ∧ Toks w' v ts ∧ Below w.heap.size w w' ∧ ∀ b, v.ownBlock = some b → b < w'.heap.size := by
  subst hs
  refine (tokens_own l w).mono fun e w' hp => ?_
  obtain ⟨v, h1, h2, h3⟩ := hp
  rw [h] at h1 h2
  exact ⟨v, h1, h2, h3⟩
/-- What Parse answers. -/
def parseB (l : Bs) : List Pr × Nat × Nat :=
  if (full l).2.2 ≠ 0 then ([], (full l).2.1, (full l).2.2)
  else if (sourceP l.length ⟨(full l).1, 0, 0⟩).2.e ≠ 0 then ([], (sourceP l.length ⟨(full l).1, 0, 0⟩).2.a, (sourceP l.length ⟨(full l).1, 0, 0⟩).2.e)
  else if vB (sourceP l.length ⟨(full l).1, 0, 0⟩).1 = true then ((sourceP l.length ⟨(full l).1, 0, 0⟩).1, 0, 0)
  else ([], 0, 6)
def ParsePost (w : World) (r : List Pr × Nat × Nat) (e : Ending) (w' : World) : Prop :=
  ∃ v, e = .returned (.tuple #[v, .int .i64 (r.2.1 : Int), .int .i64 (r.2.2 : Int)]) ∧ Lies w' (fun k => w.heap.size ≤ k) v (.s 4 (r.1.flatMap dP)) ∧ Below w.heap.size w w'
def PrintPost (w : World) (ps : List Pr) (e : Ending) (w' : World) : Prop :=
  e = .returned (.tuple #[.string (ofL (if vB ps = true then canonB ps else [])), .int .i64 (if vB ps = true then 0 else 1)]) ∧ Below w.heap.size w w'
section
variable {w w' : World} {S T : Nat → Prop}
set_option maxHeartbeats 4000000 in
theorem print_any (ht : Tb w) (hg : gT < w.heap.size) (ps : List Pr) (v : Value) (L : Lies w S v (.s 4 (ps.flatMap dP))) :
    Calls Tryz.prog 20 #[v] w (PrintPost w ps) := by
  obtain ⟨A, m, c, rfl, -⟩ := L.slc
  have HT := Lib.hid ht
  have HG := Lib.hid hg
  have LL := Lib.hid L
  clear ht hg L
  unfold PrintPost
  cases hv : vB ps with
  | false =>
    have HV := Lib.hid hv
    clear hv
    go_enter Tryz.func20, Tryz.ntmps20
    go_wp2_with fail
    refine (valid_any HT.out HG.out ps _ LL.out).mono ?_; rintro e w3 ⟨rfl, hb3⟩; rw [HV.out]
    have B3 := Lib.hid hb3
    clear hb3
    go_wp2_with fail
    refine bodyPost_ret (v := .tuple #[.string ⟨#[]⟩, .int .i64 1]) (by simp [results, Tryz.results20, go_sem]) rfl ?_
    exact ⟨rfl, B3.out⟩
  | true =>
    have HS := Lib.hid (vall_sm (ps := ps) (by unfold vB at hv; rw [Bool.and_eq_true] at hv; exact hv.1))
    have HV := Lib.hid hv
    clear hv
    go_enter Tryz.func20, Tryz.ntmps20
    go_wp2_with fail
    refine (valid_any HT.out HG.out ps _ LL.out).mono ?_; rintro e w3 ⟨rfl, hb3⟩; rw [HV.out]
    have B3 := Lib.hid hb3
    clear hb3
    go_wp2_with fail
    refine (canon_any (S := fun k => S k ∧ k < w.heap.size) (HT.out.below B3.out) (Nat.lt_of_lt_of_le HG.out B3.out.size) ps HS.out.1 _ ((show Lies w (fun k => S k ∧ k < w.heap.size) _ _ from LL.out.mono fun k hk hS => ⟨hS, hk⟩).belowT B3.out) (fun k hk => Nat.lt_of_lt_of_le hk.2 B3.out.size) HS.out.2.1 HS.out.2.2).mono ?_; rintro e w4 ⟨rfl, hb4⟩
    have B4 := Lib.hid (B3.out.trans (hb4.mono B3.out.size))
    clear hb4
    go_wp2_with fail
    refine bodyPost_ret (v := .tuple #[.string (ofL (canonB ps)), .int .i64 0]) (by simp [results, Tryz.results20, go_sem]) rfl ?_
    exact ⟨rfl, B4.out⟩
set_option maxHeartbeats 8000000 in
theorem parse_any (ht : Tb w) (hg : gT < w.heap.size) (l : Bs) : Calls Tryz.prog 14 #[.string (ofL l)] w (ParsePost w (parseB l)) := by
  obtain ⟨s, hs⟩ : ∃ s, ofL l = s := ⟨_, rfl⟩
  have hsz : s.size = l.length := by rw [← hs, ofL_size]
  have HT := Lib.hid ht
  have HG := Lib.hid hg
  obtain ⟨ts, a, x, hf⟩ : ∃ ts a x, full l = (ts, a, x) := ⟨_, _, _, rfl⟩
  have HTK := Lib.hid (toks_at s l hs.symm ts a x hf w)
  rw [hs]
  clear ht hg
  by_cases hx : x = 0
  · subst hx
    have hl8 : l.length ≤ 8000 := by
      by_cases h8 : 8000 < l.length
      · unfold full at hf; rw [if_pos h8] at hf; simp at hf
      · omega
    have hlx := full_small hl8
    have hst : SmT ts := by
      have h0 := lxs_sm hl8 (by rw [← hlx, hf])
      rwa [← hlx, hf] at h0
    have HST := Lib.hid hst
    have ha0 : a = 0 := by
      have := (lxs_bad 0 l).2 (by rw [← hlx, hf])
      rwa [← hlx, hf] at this
    subst ha0
    obtain ⟨R, hR⟩ : ∃ R, sourceP l.length ⟨ts, 0, 0⟩ = R := ⟨_, rfl⟩
    have HR := Lib.hid hR
    have HSZ := Lib.hid hsz
    have HL8 := Lib.hid hl8
    have hP : parseB l = if R.2.e ≠ 0 then ([], R.2.a, R.2.e) else if vB R.1 = true then (R.1, 0, 0) else ([], 0, 6) := by
      unfold parseB
      rw [hf]
      simp only [ne_eq, not_true_eq_false, if_false]
      rw [hR]
    have hs8 : s.size ≤ 8000 := by omega
    clear hs hf hlx hst hR hl8
    have HSTR : ∀ (B : World) (v : Value), (∀ b, v.ownBlock = some b → b < B.heap.size) → Toks B v ts → Prs (B.alloc (.cells #[v, .int .i64 (l.length : Int), .int .i64 ((0 : Nat) : Int), .int .i64 ((0 : Nat) : Int)] 81)) B.heap.size l.length ⟨ts, 0, 0⟩ := fun B v hB hv =>
      ⟨⟨v, heap_alloc_new B _, hv.below ((Below.refl B.heap.size B).alloc (Nat.le_refl _) _), hB⟩, HST.out, HL8.out, Nat.zero_le _, Nat.zero_le _, fun h => absurd rfl h⟩
    have HPR := Lib.hid HSTR
    clear HSTR
    have HP := Lib.hid hP
    clear hP hsz
    by_cases he : R.2.e = 0
    · have e0 : ((R.2.e : Int) == 0) = true := by rw [beq_iff_eq]; omega
      cases hv : vB R.1 with
      | false =>
        have HF := Lib.hid (show parseB l = ([], 0, 6) by rw [HP.out, if_neg (by simp [he]), if_neg (by simp [hv])])
        have HV := Lib.hid hv
        clear hv he
        go_enter Tryz.func14, Tryz.ntmps14
        go_wp2_with fail
        refine HTK.out.mono ?_; rintro e w3 ⟨v, rfl, ht3, hb3, ho3⟩
        obtain ⟨A, c, rfl⟩ := ht3.shape
        have B3 := Lib.hid hb3
        have P3 := Lib.hid (HPR.out w3 _ ho3 ht3)
        obtain ⟨W3, hW3⟩ : ∃ W, w3.alloc (.cells #[.slice A ts.length c, .int .i64 (l.length : Int), .int .i64 ((0 : Nat) : Int), .int .i64 ((0 : Nat) : Int)] 81) = W := ⟨_, rfl⟩
        have A3 := Lib.hid (show Below w.heap.size w W3 by rw [← hW3]; exact B3.out.alloc B3.out.size _)
        rw [hW3] at P3
        have HW3 := Lib.hid (show w3.alloc (.cells #[.slice A ts.length c, .int .i64 (l.length : Int), .int .i64 0, .int .i64 0] 81) = W3 from hW3)
        clear hb3 ho3 ht3 hW3
        go_wp2_with fail
        rw [HSZ.out, HW3.out]
        refine (psource_any P3.out).mono ?_; rintro e w4 ⟨v, rfl, L4, P4, O4⟩
        rw [HR.out] at L4 P4
        obtain ⟨A5, m5, c5, rfl, -⟩ := L4.slc
        have B4 := Lib.hid (A3.out.trans (O4.toBelow B3.out.size A3.out.size))
        have M4 := Lib.hid (L4.mono fun k _ hk => Nat.le_trans A3.out.size hk)
        obtain ⟨v5, g5, -, -⟩ := P4.blk
        have y2 : w4.cell? ⟨w3.heap.size, 2, none⟩ = some (.int .i64 (R.2.a : Int)) := cell_of_row _ _ 2 _ _ _ g5
        have y3 : w4.cell? ⟨w3.heap.size, 3, none⟩ = some (.int .i64 (R.2.e : Int)) := cell_of_row _ _ 3 _ _ _ g5
        clear g5 L4 P4 O4
        go_wp2_with fail
        refine (valid_any (HT.out.below B4.out) (Nat.lt_of_lt_of_le HG.out B4.out.size) R.1 _ M4.out).mono ?_; rintro e w5 ⟨rfl, hb5⟩; rw [HV.out]
        have B5 := Lib.hid (B4.out.trans (hb5.mono B4.out.size))
        have M5 := Lib.hid (M4.out.belowT hb5)
        clear hb5 y2 y3
        go_wp2_with fail
        clear M5
        refine bodyPost_ret (v := .tuple #[.slice none 0 0, .int .i64 0, .int .i64 6]) (by simp [results, Tryz.results14, go_sem]) rfl ?_
        exact ⟨_, by rw [HF.out]; rfl, by rw [HF.out]; exact Lies.nil 4, B5.out⟩
      | true =>
        have HF := Lib.hid (show parseB l = (R.1, 0, 0) by rw [HP.out, if_neg (by simp [he]), if_pos hv])
        have HV := Lib.hid hv
        clear hv he
        go_enter Tryz.func14, Tryz.ntmps14
        go_wp2_with fail
        refine HTK.out.mono ?_; rintro e w3 ⟨v, rfl, ht3, hb3, ho3⟩
        obtain ⟨A, c, rfl⟩ := ht3.shape
        have B3 := Lib.hid hb3
        have P3 := Lib.hid (HPR.out w3 _ ho3 ht3)
        obtain ⟨W3, hW3⟩ : ∃ W, w3.alloc (.cells #[.slice A ts.length c, .int .i64 (l.length : Int), .int .i64 ((0 : Nat) : Int), .int .i64 ((0 : Nat) : Int)] 81) = W := ⟨_, rfl⟩
        have A3 := Lib.hid (show Below w.heap.size w W3 by rw [← hW3]; exact B3.out.alloc B3.out.size _)
        rw [hW3] at P3
        have HW3 := Lib.hid (show w3.alloc (.cells #[.slice A ts.length c, .int .i64 (l.length : Int), .int .i64 0, .int .i64 0] 81) = W3 from hW3)
        clear hb3 ho3 ht3 hW3
        go_wp2_with fail
        rw [HSZ.out, HW3.out]
        refine (psource_any P3.out).mono ?_; rintro e w4 ⟨v, rfl, L4, P4, O4⟩
        rw [HR.out] at L4 P4
        obtain ⟨A5, m5, c5, rfl, -⟩ := L4.slc
        have B4 := Lib.hid (A3.out.trans (O4.toBelow B3.out.size A3.out.size))
        have M4 := Lib.hid (L4.mono fun k _ hk => Nat.le_trans A3.out.size hk)
        obtain ⟨v5, g5, -, -⟩ := P4.blk
        have y2 : w4.cell? ⟨w3.heap.size, 2, none⟩ = some (.int .i64 (R.2.a : Int)) := cell_of_row _ _ 2 _ _ _ g5
        have y3 : w4.cell? ⟨w3.heap.size, 3, none⟩ = some (.int .i64 (R.2.e : Int)) := cell_of_row _ _ 3 _ _ _ g5
        clear g5 L4 P4 O4
        go_wp2_with fail
        refine (valid_any (HT.out.below B4.out) (Nat.lt_of_lt_of_le HG.out B4.out.size) R.1 _ M4.out).mono ?_; rintro e w5 ⟨rfl, hb5⟩; rw [HV.out]
        have B5 := Lib.hid (B4.out.trans (hb5.mono B4.out.size))
        have M5 := Lib.hid (M4.out.belowT hb5)
        clear hb5 y2 y3
        go_wp2_with fail
        refine bodyPost_ret (v := .tuple #[.slice A5 m5 c5, .int .i64 0, .int .i64 0]) (by simp [results, Tryz.results14, go_sem]) rfl ?_
        exact ⟨_, by rw [HF.out]; rfl, by rw [HF.out]; exact M5.out, B5.out⟩
    · have e0 : ((R.2.e : Int) == 0) = false := by rw [beq_eq_false_iff_ne]; omega
      have HF := Lib.hid (show parseB l = ([], R.2.a, R.2.e) by rw [HP.out, if_pos he])
      clear he
      go_enter Tryz.func14, Tryz.ntmps14
      go_wp2_with fail
      refine HTK.out.mono ?_; rintro e w3 ⟨v, rfl, ht3, hb3, ho3⟩
      obtain ⟨A, c, rfl⟩ := ht3.shape
      have B3 := Lib.hid hb3
      have P3 := Lib.hid (HPR.out w3 _ ho3 ht3)
      obtain ⟨W3, hW3⟩ : ∃ W, w3.alloc (.cells #[.slice A ts.length c, .int .i64 (l.length : Int), .int .i64 ((0 : Nat) : Int), .int .i64 ((0 : Nat) : Int)] 81) = W := ⟨_, rfl⟩
      have A3 := Lib.hid (show Below w.heap.size w W3 by rw [← hW3]; exact B3.out.alloc B3.out.size _)
      rw [hW3] at P3
      have HW3 := Lib.hid (show w3.alloc (.cells #[.slice A ts.length c, .int .i64 (l.length : Int), .int .i64 0, .int .i64 0] 81) = W3 from hW3)
      clear hb3 ho3 ht3 hW3
      go_wp2_with fail
      rw [HSZ.out, HW3.out]
      refine (psource_any P3.out).mono ?_; rintro e w4 ⟨v, rfl, L4, P4, O4⟩
      rw [HR.out] at L4 P4
      obtain ⟨A5, m5, c5, rfl, -⟩ := L4.slc
      have B4 := Lib.hid (A3.out.trans (O4.toBelow B3.out.size A3.out.size))
      have M4 := Lib.hid (L4.mono fun k _ hk => Nat.le_trans A3.out.size hk)
      obtain ⟨v5, g5, -, -⟩ := P4.blk
      have y2 : w4.cell? ⟨w3.heap.size, 2, none⟩ = some (.int .i64 (R.2.a : Int)) := cell_of_row _ _ 2 _ _ _ g5
      have y3 : w4.cell? ⟨w3.heap.size, 3, none⟩ = some (.int .i64 (R.2.e : Int)) := cell_of_row _ _ 3 _ _ _ g5
      clear g5 L4 P4 O4
      go_wp2_with fail
      go_region
      go_wp2_with fail
      all_goals
        refine bodyPost_ret (v := .tuple #[.slice none 0 0, .int .i64 (R.2.a : Int), .int .i64 (R.2.e : Int)]) (by simp [results, Tryz.results14, go_sem]) rfl ?_
        exact ⟨_, by rw [HF.out], by rw [HF.out]; exact Lies.nil 4, B4.out.drew⟩
  · have HP := Lib.hid (show parseB l = ([], a, x) by unfold parseB; rw [hf]; exact if_pos hx)
    have hx2 : ((x : Int) == 0) = false := by rw [beq_eq_false_iff_ne]; omega
    clear hs hf hx
    go_enter Tryz.func14, Tryz.ntmps14
    go_wp2_with fail
    refine HTK.out.mono ?_; rintro e w3 ⟨v, rfl, -, hb3, -⟩
    have B3 := Lib.hid hb3
    clear hb3
    go_wp2_with fail
    refine bodyPost_ret (v := .tuple #[.slice none 0 0, .int .i64 (a : Int), .int .i64 (x : Int)]) (by simp [results, Tryz.results14, go_sem]) rfl ?_
    exact ⟨_, by rw [HP.out], by rw [HP.out]; exact Lies.nil 4, B3.out⟩
end
end Go.Proofs.YtekpefcggikcbaaGreatDoor
