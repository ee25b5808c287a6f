/- Layer 10: the contracts of validProtocol, Valid, Print and Parse. -/
import Derived.Test.YtpnlojcimeiihaaGreatDoorMVlM
import Derived.Test.YtpnlojcimeiihaaGreatDoorMSynSo
import Derived.Test.YtpnlojcimeiihaaGreatDoorMLexTks
namespace Go.Proofs.YtpnlojcimeiihaaGreatDoor
/- Layer 10: the contracts of validProtocol, Valid, Print and Parse. -/
open Go.RowKit

theorem ent_validMessage : ∀ args w, (callFunc 90 args).run Tryz.prog w = .ok (.enter 90 args) w := enters_of Tryz.func90 (by kernel_rfl) rfl
theorem ent_validProtocol : ∀ args w, (callFunc 48 args).run Tryz.prog w = .ok (.enter 48 args) w := enters_of Tryz.func48 (by kernel_rfl) rfl
section
variable {w w' : World} {S T : Nat → Prop}
set_option maxHeartbeats 8000000 in
theorem validProtocol_any (p : Pr) (v : Value) (hR : RPr S w p v) : Calls Tryz.prog 48 #[v] w (Tells w (.bool (vpB p))) := by
  obtain ⟨v1, v2, v3, rfl, L1, L2, L3⟩ := hR
  obtain ⟨A1, n1, c1, rfl, -⟩ := Lies.slc (show Lies w S v1 (.s 1 (p.rs.flatMap fun x => [dS x])) from L1)
  obtain ⟨A2, n2, c2, rfl, -⟩ := L2.slc
  obtain ⟨A3, n3, c3, rfl, -⟩ := Lies.slc (show Lies w S v3 (.s 7 (dIs p.bd)) from L3)
  obtain ⟨nm, rs, ms, bd⟩ := p
  obtain ⟨W0, hW0⟩ : ∃ W, (w.alloc (.cells #[.string (ofL nm), .slice A1 n1 c1, .slice A2 n2 c2, .slice A3 n3 c3] 59)).alloc (.cells #[.int .i64 300] 3) = W := ⟨_, rfl⟩
  have B1 := Lib.hid (show Below w.heap.size w W0 by rw [← hW0]; exact ((Below.refl _ w).alloc (Nat.le_refl _) _).alloc (by simp) _)
  have X1 := Lib.hid (show Bx W0 w.heap.size 59 #[.string (ofL nm), .slice A1 n1 c1, .slice A2 n2 c2, .slice A3 n3 c3] by rw [← hW0]; exact (Bx.new w _ _).alloc _)
  have X2 := Lib.hid (show Bx W0 (w.heap.size + 1) 3 #[.int .i64 300] by rw [← hW0]; exact Bx.new2 (size_alloc _ _))
  have M1 := Lib.hid (show Lies W0 S (.slice A1 n1 c1) (dL rs) from L1.belowT B1.out)
  have M2 := Lib.hid (show Lies W0 S (.slice A2 n2 c2) (.s 3 (ms.flatMap dM)) from L2.belowT B1.out)
  have M3 := Lib.hid (show Lies W0 (fun k => S k ∧ k < w.heap.size) (.slice A3 n3 c3) (dB bd) from (show Lies w (fun k => S k ∧ k < w.heap.size) (.slice A3 n3 c3) (dB bd) from L3.mono fun k hk hS => ⟨hS, hk⟩).belowT B1.out)
  have HW0 := Lib.hid hW0
  clear hW0 L1 L2 L3
  have p0 : W0.cell? ⟨w.heap.size, 0, none⟩ = some (.string (ofL nm)) := X1.out.cell 0
  have p1 : W0.cell? ⟨w.heap.size, 1, none⟩ = some (.slice A1 n1 c1) := X1.out.cell 1
  have p2 : W0.cell? ⟨w.heap.size, 2, none⟩ = some (.slice A2 n2 c2) := X1.out.cell 2
  have p3 : W0.cell? ⟨w.heap.size, 3, none⟩ = some (.slice A3 n3 c3) := X1.out.cell 3
  cases hc0 : wdB nm with
  | false =>
    have H := Lib.hid (show false = vpB ⟨nm, rs, ms, bd⟩ by unfold vpB; simp [hc0])
    have HC0 := Lib.hid hc0
    clear hc0
    go_enter Tryz.func48, Tryz.ntmps48
    go_wp2_with fail
    rw [HW0.out]
    refine (isWord_any _ _).mono ?_; rintro e w2 ⟨rfl, rfl⟩; rw [HC0.out]
    go_wp2_with fail
    go_ret
    exact ⟨by rw [H.out]; rfl, B1.out⟩
  | true =>
    cases hc1 : alB wdB 1 6 rs with
    | false =>
      have H := Lib.hid (show false = vpB ⟨nm, rs, ms, bd⟩ by unfold vpB; simp [hc0, hc1])
      have HC0 := Lib.hid hc0
      have HC1 := Lib.hid hc1
      clear hc0 hc1
      go_enter Tryz.func48, Tryz.ntmps48
      go_wp2_with fail
      rw [HW0.out]
      refine (isWord_any _ _).mono ?_; rintro e w2 ⟨rfl, rfl⟩; rw [HC0.out]
      go_wp2_with fail
      refine (allS_any _ wdB isWord_q 1 6 rs _ M1.out (by decide)).mono ?_; rintro e w3 ⟨rfl, hb3⟩; rw [HC1.out]
      have B3 := Lib.hid (B1.out.trans (hb3.mono B1.out.size))
      have Y1 := X1.out.below hb3
      have q2 : w3.cell? ⟨w.heap.size, 2, none⟩ = some (.slice A2 n2 c2) := Y1.cell 2
      have G3 := Lib.hid hb3
      clear hb3 Y1
      go_wp2_with fail
      go_ret
      exact ⟨by rw [H.out]; rfl, B3.out⟩
    | true =>
      cases hc2 : alB vmB 0 40 ms with
      | false =>
        have H := Lib.hid (show false = vpB ⟨nm, rs, ms, bd⟩ by unfold vpB; simp [hc0, hc1, hc2])
        have HC0 := Lib.hid hc0
        have HC1 := Lib.hid hc1
        have HC2 := Lib.hid hc2
        clear hc0 hc1 hc2
        go_enter Tryz.func48, Tryz.ntmps48
        go_wp2_with fail
        rw [HW0.out]
        refine (isWord_any _ _).mono ?_; rintro e w2 ⟨rfl, rfl⟩; rw [HC0.out]
        go_wp2_with fail
        refine (allS_any _ wdB isWord_q 1 6 rs _ M1.out (by decide)).mono ?_; rintro e w3 ⟨rfl, hb3⟩; rw [HC1.out]
        have B3 := Lib.hid (B1.out.trans (hb3.mono B1.out.size))
        have Y1 := X1.out.below hb3
        have q2 : w3.cell? ⟨w.heap.size, 2, none⟩ = some (.slice A2 n2 c2) := Y1.cell 2
        have G3 := Lib.hid hb3
        clear hb3 Y1
        go_wp2_with fail
        refine (allM_any _ vmB (S := S) ⟨ent_validMessage, fun _ x v h => validMessage_any x v h⟩ 0 40 ms _ (M2.out.belowT G3.out) (by decide)).mono ?_; rintro e w4 ⟨rfl, hb4⟩; rw [HC2.out]
        have B4 := Lib.hid (B3.out.trans (hb4.mono B3.out.size))
        have G4 := Lib.hid (G3.out.trans (hb4.mono G3.out.size))
        have Y2 := X1.out.below G4.out
        have r3 : w4.cell? ⟨w.heap.size, 3, none⟩ = some (.slice A3 n3 c3) := Y2.cell 3
        clear hb4 Y2
        go_wp2_with fail
        go_ret
        exact ⟨by rw [H.out]; rfl, B4.out⟩
      | true =>
        have H := Lib.hid (show (visI 0 300 bd).isSome = vpB ⟨nm, rs, ms, bd⟩ by unfold vpB; simp [hc0, hc1, hc2])
        have HC0 := Lib.hid hc0
        have HC1 := Lib.hid hc1
        have HC2 := Lib.hid hc2
        clear hc0 hc1 hc2
        go_enter Tryz.func48, Tryz.ntmps48
        go_wp2_with fail
        rw [HW0.out]
        refine (isWord_any _ _).mono ?_; rintro e w2 ⟨rfl, rfl⟩; rw [HC0.out]
        go_wp2_with fail
        refine (allS_any _ wdB isWord_q 1 6 rs _ M1.out (by decide)).mono ?_; rintro e w3 ⟨rfl, hb3⟩; rw [HC1.out]
        have B3 := Lib.hid (B1.out.trans (hb3.mono B1.out.size))
        have Y1 := X1.out.below hb3
        have q2 : w3.cell? ⟨w.heap.size, 2, none⟩ = some (.slice A2 n2 c2) := Y1.cell 2
        have G3 := Lib.hid hb3
        clear hb3 Y1
        go_wp2_with fail
        refine (allM_any _ vmB (S := S) ⟨ent_validMessage, fun _ x v h => validMessage_any x v h⟩ 0 40 ms _ (M2.out.belowT G3.out) (by decide)).mono ?_; rintro e w4 ⟨rfl, hb4⟩; rw [HC2.out]
        have B4 := Lib.hid (B3.out.trans (hb4.mono B3.out.size))
        have G4 := Lib.hid (G3.out.trans (hb4.mono G3.out.size))
        have Y2 := X1.out.below G4.out
        have r3 : w4.cell? ⟨w.heap.size, 3, none⟩ = some (.slice A3 n3 c3) := Y2.cell 3
        clear hb4 Y2
        go_wp2_with fail
        refine (validItems_any (w.heap.size + 1) 0 300 bd _ (X2.out.below G4.out) (M3.out.belowT G4.out) (by intro h; omega) (by decide) (by decide) (by decide)).mono ?_
        rintro e w5 ⟨O5, (⟨hr, rfl⟩ | ⟨l1, hr, -, -, rfl, -⟩)⟩
        · have B5 := Lib.hid (B4.out.trans (O5.toBelow (B := w.heap.size) (by omega) B4.out.size))
          have HF := Lib.hid (show false = vpB ⟨nm, rs, ms, bd⟩ by rw [← H.out, hr]; rfl)
          clear O5 hr
          go_wp2_with fail
          go_ret
          exact ⟨by rw [← HF.out]; rfl, B5.out⟩
        · have B5 := Lib.hid (B4.out.trans (O5.toBelow (B := w.heap.size) (by omega) B4.out.size))
          have HF := Lib.hid (show true = vpB ⟨nm, rs, ms, bd⟩ by rw [← H.out, hr]; rfl)
          clear O5 hr
          go_wp2_with fail
          go_ret
          exact ⟨by rw [← HF.out]; rfl, B5.out⟩
set_option maxHeartbeats 8000000 in
theorem valid_any (ht : Tb w) (hg : gT < w.heap.size) (ps : List Pr) (v : Value) (L : Lies w S v (.s 4 (ps.flatMap dP))) :
    Calls Tryz.prog 18 #[v] w (Tells w (.bool (vB ps))) := by
  obtain ⟨A, m, c, rfl, -⟩ := L.slc
  have HT := Lib.hid ht
  have HG := Lib.hid hg
  have LL := Lib.hid L
  clear ht hg L
  cases hc0 : alB vpB 0 10 ps with
  | false =>
    have H := Lib.hid (show false = vB ps by unfold vB; simp [hc0])
    have HC0 := Lib.hid hc0
    clear hc0
    go_enter Tryz.func18, Tryz.ntmps18
    go_wp2_with fail
    refine (allP_any _ vpB (S := S) ⟨ent_validProtocol, fun _ x v h => validProtocol_any x v h⟩ 0 10 ps _ LL.out (by decide)).mono ?_; rintro e w3 ⟨rfl, hb3⟩; rw [HC0.out]
    have B3 := Lib.hid hb3
    clear hb3
    go_wp2_with fail
    go_ret
    exact ⟨by rw [H.out]; rfl, B3.out⟩
  | true =>
    have HS := Lib.hid (vall_sm hc0)
    have H := Lib.hid (show decide ((canonB ps).length ≤ 8000) = vB ps by unfold vB; simp [hc0])
    have HC0 := Lib.hid hc0
    clear hc0
    obtain ⟨s, hs⟩ : ∃ s, ofL (canonB ps) = s := ⟨_, rfl⟩
    have hsz : s.size = (canonB ps).length := by rw [← hs, ofL_size]
    have HSZ := Lib.hid hsz
    have HSE := Lib.hid hs
    clear hs hsz
    have HF := Lib.hid (show decide ((s.size : Int) ≤ 8000) = vB ps by rw [← H.out, ← HSZ.out, decide_eq_decide]; omega)
    go_enter Tryz.func18, Tryz.ntmps18
    go_wp2_with fail
    refine (allP_any _ vpB (S := S) ⟨ent_validProtocol, fun _ x v h => validProtocol_any x v h⟩ 0 10 ps _ LL.out (by decide)).mono ?_; rintro e w3 ⟨rfl, hb3⟩; rw [HC0.out]
    have B3 := Lib.hid hb3
    clear hb3
    go_wp2_with fail
    refine (canon_any (S := fun k => S k ∧ k < w.heap.size) (HT.out.below B3.out) (Nat.lt_of_lt_of_le HG.out B3.out.size) ps HS.out.1 _ ((show Lies w (fun k => S k ∧ k < w.heap.size) _ _ from LL.out.mono fun k hk hS => ⟨hS, hk⟩).belowT B3.out) (fun k hk => Nat.lt_of_lt_of_le hk.2 B3.out.size) HS.out.2.1 HS.out.2.2).mono ?_; rintro e w4 ⟨rfl, hb4⟩; rw [HSE.out]
    have B4 := Lib.hid (B3.out.trans (hb4.mono B3.out.size))
    clear hb4
    go_wp2_with fail
    go_ret
    exact ⟨by rw [← HF.out]; rfl, B4.out⟩
end
/- Layer 9: the contract of Tokens, with where the tokens lie. -/
open Go.RowKit

def TkoPost (w : World) (r : Res) (e : Ending) (w' : World) : Prop :=
  ∃ v, e = .returned (.tuple #[v, .int .i64 (r.2.1 : Int), .int .i64 (r.2.2 : Int)]) ∧ Toks w' v r.1 ∧ Below w.heap.size w w' ∧ ∀ b, v.ownBlock = some b → b < w'.heap.size
theorem TkoPost.mk {w w' : World} {r : Res} {e : Ending} {v : Value} {ts : List Tok} {a x : Nat} (hr : r = (ts, a, x)) (he : e = .returned (.tuple #[v, .int .i64 (a : Int), .int .i64 (x : Int)])) (ht : Toks w' v ts) (hb : Below w.heap.size w w') (ho : ∀ b, v.ownBlock = some b → b < w'.heap.size) : TkoPost w r e w' := by
  subst hr; exact ⟨v, he, ht, hb, ho⟩
theorem nil_own {w : World} : ∀ b, (Value.slice none 0 0).ownBlock = some b → b < w.heap.size := by intro b hb; cases hb
theorem own_lt {w : World} {B e z n : Nat} {v : Value} {xs : List Value} (h : w.ownsRow B e z v n xs) : ∀ b, v.ownBlock = some b → b < w.heap.size := by
  intro b hb
  rcases h.2 with ⟨rfl, _⟩ | ⟨g, cap, cur, rfl, _, hh, _⟩
  · cases hb
  · cases hb; exact lt_of_some hh
set_option maxRecDepth 20000 in
set_option maxHeartbeats 1000000 in
theorem tokens_own (l : List UInt8) (w : World) : Calls Tryz.prog 27 #[.string (ofL l)] w (TkoPost w (full l)) := by
  obtain ⟨s, hs⟩ : ∃ s, s = ofL l := ⟨_, rfl⟩
  have hsz : s.size = l.length := by rw [hs, ofL_size]
  by_cases hbig : 8000 < l.length
  · have hT := Lib.hid (show full l = ([], 8000, 6) by unfold full; rw [if_pos hbig])
    have hb2 : 8000 < s.size := by omega
    rw [← hs]
    clear hs hsz hbig
    go_enter Tryz.func27, Tryz.ntmps27
    go_wp2
    refine bodyPost_ret (v := .tuple #[.slice none 0 0, .int .i64 8000, .int .i64 6]) (by simp [results, Tryz.results27, go_sem]) rfl ?_
    exact TkoPost.mk hT.out rfl (Toks.nil _) (Below.refl _ _) nil_own
  · have hT := Lib.hid (show full l = lxs 0 l by unfold full; rw [if_neg hbig])
    have hb2 : ¬ 8000 < s.size := by omega
    rw [← hs]
    have hroom : l.length ≤ 8000 := by omega
    have S0 : Hid (Scn (w.alloc (.cells #[.string s, .int .i64 0] 119)) w.heap.size l 0) := ⟨by rw [hs]; exact heap_alloc_new w _, by omega, hroom⟩
    have B0 : Hid (Below w.heap.size w (w.alloc (.cells #[.string s, .int .i64 0] 119))) := (Below.refl _ _).alloc (Nat.le_refl _) _
    clear hs hsz hbig
    go_enter Tryz.func27, Tryz.ntmps27
    go_wp2_with fail
    refine (skip_any S0.out).mono ?_; rintro e w1 ⟨rfl, S1, O1⟩
    have HS1 := Lib.hid S1
    have HB1 := Lib.hid (B0.out.trans (O1.toBelow (Nat.le_refl _) (by simp)))
    clear S1 O1 S0 B0
    go_wp2
    go_loopg [2, 6, 7, 8, 9] (l.length) (fun gk v _ _ _ _ wr => TkRel w l gk v wr)
    case atStart =>
      refine ⟨0 + sk false (l.drop 0), [], by omega, by simp, HS1, HB1, World.ownsRow_nil _ _ _ _, ?_, ?_⟩
      · unfold Hid
        rw [prep_nil, Nat.zero_add, List.drop_zero]
        have := lxs_skip 0 l
        rwa [Nat.zero_add] at this
      · unfold Hid
        rw [Nat.zero_add, List.drop_zero]
        exact sk_idem false l
    case round =>
      clear HS1 HB1
      obtain ⟨k, acc, hgk, hak, HS, HB, HV, HL, HK⟩ := hrel
      have hk8 := HS.out.off
      by_cases hend : k = l.length
      · have he := Lib.hid (show full l = (acc, 0, 0) by
          rw [hT.out, HL.out, lxs_end (by rw [HK.out, List.length_drop]; omega)]
          simp [prep])
        have hd : decide (k = l.length) = true := by simpa using hend
        have HE := Lib.hid hend
        clear hend
        go_wp2_with fail
        refine (ended_any HS.out).mono ?_; rintro e w2 ⟨rfl, m, rfl⟩
        go_wp2_with fail
        refine bodyPost_ret (v := .tuple #[u2, .int .i64 0, .int .i64 0]) (by simp [results, Tryz.results27, go_sem]) rfl ?_
        exact TkoPost.mk he.out rfl ((Toks.of_own HV.out).below (below_drewN (Below.refl _ _) m)) (below_drewN HB.out m) (own_lt HV.out)
      · have hd : decide (k = l.length) = false := by simpa using hend
        have hkl : k < l.length := by omega
        clear hend
        go_wp2_with fail
        refine (ended_any HS.out).mono ?_; rintro e w2 ⟨rfl, m, rfl⟩
        have HS2 := Lib.hid (HS.out.drewN m)
        have HB2 := Lib.hid (below_drewN HB.out m)
        have c1 : (wr.drewN m).cell? ⟨w.heap.size, 1, none⟩ = some (.int .i64 (k : Int)) := HS2.out.cell 1
        go_wp2_with fail
        refine (reader_any HS2.out).mono ?_
        rintro e w3 ⟨K, rfl, ⟨hE, hR⟩, m2, rfl⟩
        have HR := Lib.hid hR
        have HS3 := Lib.hid (HS2.out.drewN m2)
        have HB3 := Lib.hid (below_drewN HB2.out m2)
        have HV3 : Hid (((wr.drewN m).drewN m2).ownsRow (w.heap.size + 1) 48 4 u2 acc.length (acc.flatMap tcells)) := HV.out
        clear hR c1
        generalize hw3 : (wr.drewN m).drewN m2 = w3 at *
        clear hw3 HS2 HB2
        cases htk : tk (l.drop k) with
        | err x =>
          have HX := Lib.hid htk
          have he := Lib.hid (show full l = ([], k, x) by
            rw [hT.out, HL.out, lxs_err (e := x) (by rw [HK.out, List.length_drop]; omega) (by rw [HK.out, List.drop_zero]; exact htk), HK.out]
            have := tk_errn htk
            simp [prep, this])
          have hx0 : ((x : Int) != 0) = true := by have := tk_errn htk; simp; omega
          clear htk
          go_wp2_with fail
          refine (HR.out _ HS3.out).mono ?_
          rw [HX.out]
          rintro e w4 ⟨rfl, O4⟩
          unfold tokV
          have hbe := Lib.hid (((HB3.out.trans (O4.toBelow (Nat.le_refl _) HB3.out.size)).alloc (Nat.le_trans HB3.out.size O4.size) (.cells #[.int .i64 0, .string (ofL []), .int .i64 0, .int .i64 0] 48)))
          clear O4
          go_wp2_with fail
          refine bodyPost_ret (v := .tuple #[.slice none 0 0, .int .i64 (k : Int), .int .i64 (x : Int)]) (by simp [results, Tryz.results27, go_sem]) rfl ?_
          exact TkoPost.mk he.out rfl (Toks.nil _) hbe.out nil_own
        | ok kd t v n =>
          have HX := Lib.hid htk
          have htl := tk_len htk
          rw [List.length_drop] at htl
          obtain ⟨hn1, hn2⟩ := htl
          clear htk
          go_wp2_with fail
          refine (HR.out _ HS3.out).mono ?_
          rw [HX.out]
          rintro e w4 ⟨rfl, S4, O4⟩
          unfold tokV
          have ht8 : (ofL t).size ≤ 281474976710656 := by rw [ofL_size]; have := tk_tl HX.out; omega
          have hB4 := Lib.hid (HB3.out.trans (O4.toBelow (Nat.le_refl _) HB3.out.size))
          have hS4 := Lib.hid S4
          have hV4 := Lib.hid (own_keepK HV3.out (fun a ha hb => O4.block a ha (by omega)))
          have hsz4 : w.heap.size + 1 ≤ w4.heap.size := by have := hS4.out.lt; omega
          clear O4 S4
          go_wp2_with fail
          refine (clone_any _ _ ht8).mono ?_
          rintro e w5 ⟨rfl, hb5⟩
          have hT5 := Lib.hid ((TBox.made w4 kd v 0 t).below hb5)
          have hB5 := Lib.hid ((((Below.refl w4.heap.size w4).alloc (Nat.le_refl _) (.cells #[.int .i64 (kd : Int), .string (ofL t), .int .i64 (v : Int), .int .i64 0] 48)).trans (hb5.mono (by simp))))
          obtain ⟨d0, d1, d2, d3, f0, f1, f2, f3⟩ := hT5.out.facts
          have hT7 : Hid (TBox ((w5.setCell ⟨w4.heap.size, 1, none⟩ (.string (ofL t))).setCell ⟨w4.heap.size, 3, none⟩ (.int .i64 (k : Int))) w4.heap.size kd t v k) := (hT5.out.set1 t).set3 k
          have hB7 : Hid (Below w4.heap.size w4 ((w5.setCell ⟨w4.heap.size, 1, none⟩ (.string (ofL t))).setCell ⟨w4.heap.size, 3, none⟩ (.int .i64 (k : Int)))) := (hB5.out.setCell (Nat.le_refl _) _).setCell (Nat.le_refl _) _
          have hz7 : Hid (((w5.setCell ⟨w4.heap.size, 1, none⟩ (.string (ofL t))).setCell ⟨w4.heap.size, 3, none⟩ (.int .i64 (k : Int))).heap.size = w5.heap.size) := by unfold Hid; simp [World.setCell]
          have hS7 := Lib.hid (hS4.out.keep (hB7.out.block _ hS4.out.lt))
          have hV7 := Lib.hid (own_keepK hV4.out (fun a ha _ => hB7.out.block a ha))
          have hBB := Lib.hid (hB4.out.trans (hB7.out.mono hB4.out.size))
          have hsz7 : w.heap.size + 1 ≤ ((w5.setCell ⟨w4.heap.size, 1, none⟩ (.string (ofL t))).setCell ⟨w4.heap.size, 3, none⟩ (.int .i64 (k : Int))).heap.size := Nat.le_trans hsz4 hB7.out.size
          clear hb5
          have hacc : (acc.length + 1) * 40 ≤ 140737488355328 := by omega
          go_wp2_with (at_builtin; refine app4 rfl _ _ 42 rfl 48 _ 40 info_tok Tryz.underlying42 rfl (w.heap.size + 1) _ _ _ rfl hV7.out _ _ _ _ (by rw [hz7.out]; rfl) (by simp [Value.oneCell']) hacc (by omega) hsz7 ?_; intro v' w8 hown8 hf8; have hV8 := Lib.hid hown8; have hF8 := Lib.hid hf8; clear hown8 hf8; have hS8 : Hid (Scn w8 w.heap.size l (k + n)) := ⟨hF8.out.keeps hS7.out.blk (by decide), hS7.out.off, hS7.out.room⟩)
          have hBB8 := Lib.hid (hBB.out.trans ((hF8.out.below hsz7).mono (by omega)))
          refine (skip_any hS8.out).mono ?_
          rintro e w9 ⟨rfl, S9, O9⟩
          have hS9 := Lib.hid S9
          have hV9 := Lib.hid (own_keepK hV8.out (fun a ha hb => O9.block a ha (by omega)))
          have hB9 := Lib.hid (hBB8.out.trans (O9.toBelow (Nat.le_refl _) hBB8.out.size))
          clear S9 O9
          go_wp2_with fail
          go_roundg (gk - n)
          case rel =>
            refine ⟨k + n + sk false (l.drop (k + n)), acc ++ [⟨kd, t, v, k⟩], by omega, by simp; omega, hS9, hB9, ?_, ?_, ?_⟩
            · have h9 := hV9.out
              rw [List.length_append, List.flatMap_append]
              exact h9
            · unfold Hid
              rw [HL.out, lxs_ok (k := kd) (t := t) (v := v) (m := n) (by rw [HK.out, List.length_drop]; omega) (by rw [HK.out, List.drop_zero]; exact HX.out), HK.out, prep_push]
              simp only [Nat.add_zero, List.drop_drop]
              rw [lxs_skip (k + n), List.drop_drop]
            · unfold Hid
              rw [← List.drop_drop]
              exact sk_idem false _
          case measure => omega
end Go.Proofs.YtpnlojcimeiihaaGreatDoor
