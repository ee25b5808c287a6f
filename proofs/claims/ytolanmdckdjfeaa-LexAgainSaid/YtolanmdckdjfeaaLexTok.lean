/- Layer 9: the contract of Tokens. -/
import Derived.Test.YtolanmdckdjfeaaLexTks
import Derived.Deep.LoopGhost
namespace Go.Proofs.Ytolanmdckdjfeaa
open Go.RowKit

theorem below_drewN {B : Nat} {a b : World} (h : Below B a b) (m : Nat) : Below B a (b.drewN m) := ⟨h.os, h.tape, h.output, h.size, h.block⟩
def full (l : List UInt8) : Res := if 8000 < l.length then ([], 8000, 6) else lxs 0 l
theorem full_small {l : List UInt8} (h : l.length ≤ 8000) : full l = lxs 0 l := by unfold full; rw [if_neg (by omega)]
def TksPost (w : World) (r : Res) (e : Ending) (w' : World) : Prop :=
  ∃ v, e = .returned (.tuple #[v, .int .i64 (r.2.1 : Int), .int .i64 (r.2.2 : Int)]) ∧ Toks w' v r.1 ∧ Below w.heap.size w w'
theorem TksPost.mk {w w' : World} {r : Res} {e : Ending} {v : Value} {ts : List Tok} {a x : Nat} (hr : r = (ts, a, x)) (he : e = .returned (.tuple #[v, .int .i64 (a : Int), .int .i64 (x : Int)])) (ht : Toks w' v ts) (hb : Below w.heap.size w w') : TksPost w r e w' := by
  subst hr; exact ⟨v, he, ht, hb⟩
def TkRel (w : World) (l : List UInt8) (gk : Nat) (v : Value) (wr : World) : Prop :=
  ∃ (k : Nat) (acc : List Tok), l.length ≤ gk + k ∧ acc.length ≤ k ∧ Hid (Scn wr w.heap.size l k) ∧ Hid (Below w.heap.size w wr) ∧ Hid (wr.ownsRow (w.heap.size + 1) 35 4 v acc.length (acc.flatMap tcells)) ∧
    Hid (lxs 0 l = prep acc (lxs k (l.drop k))) ∧ Hid (sk false (l.drop k) = 0)
set_option maxRecDepth 20000 in
set_option maxHeartbeats 1000000 in
theorem tokens_any (l : List UInt8) (w : World) : Calls Try.prog 11 #[.string (ofL l)] w (TksPost w (full l)) := by
  obtain ⟨s, hs⟩ : ∃ s, s = ofL l := ⟨_, rfl⟩
  have hsz : s.size = l.length := by rw [hs, ofL_size]
  by_cases hbig : 8000 < l.length
  · have hT := Lib.hid (show full l = ([], 8000, 6) by unfold full; rw [if_pos hbig])
    have hb2 : 8000 < s.size := by omega
    rw [← hs]
    clear hs hsz hbig
    go_enter Try.func11, Try.ntmps11
    go_wp2
    refine bodyPost_ret (v := .tuple #[.slice none 0 0, .int .i64 8000, .int .i64 6]) (by simp [results, Try.results11, go_sem]) rfl ?_
    exact TksPost.mk hT.out rfl (Toks.nil _) (Below.refl _ _)
  · have hT := Lib.hid (show full l = lxs 0 l by unfold full; rw [if_neg hbig])
    have hb2 : ¬ 8000 < s.size := by omega
    rw [← hs]
    have hroom : l.length ≤ 8000 := by omega
    have S0 : Hid (Scn (w.alloc (.cells #[.string s, .int .i64 0] 45)) w.heap.size l 0) := ⟨by rw [hs]; exact heap_alloc_new w _, by omega, hroom⟩
    have B0 : Hid (Below w.heap.size w (w.alloc (.cells #[.string s, .int .i64 0] 45))) := (Below.refl _ _).alloc (Nat.le_refl _) _
    clear hs hsz hbig
    go_enter Try.func11, Try.ntmps11
    go_wp2_with fail
    refine (skip_any S0.out).mono ?_; rintro e w1 ⟨rfl, S1, O1⟩
    have HS1 := Lib.hid S1
    have HB1 := Lib.hid (B0.out.trans (O1.toBelow (Nat.le_refl _) (by simp)))
    clear S1 O1 S0 B0
    go_wp2
    go_loopg [2, 6, 7, 8, 9] (l.length) (fun gk v _ _ _ _ wr => TkRel w l gk v wr)
    case atStart =>
      refine ⟨0 + sk false (l.drop 0), [], by omega, by simp, HS1, HB1, World.ownsRow_nil _ _ _ _, ?_, ?_⟩
      · unfold Hid
        rw [prep_nil, Nat.zero_add, List.drop_zero]
        have := lxs_skip 0 l
        rwa [Nat.zero_add] at this
      · unfold Hid
        rw [Nat.zero_add, List.drop_zero]
        exact sk_idem false l
    case round =>
      clear HS1 HB1
      obtain ⟨k, acc, hgk, hak, HS, HB, HV, HL, HK⟩ := hrel
      have hk8 := HS.out.off
      by_cases hend : k = l.length
      · have he := Lib.hid (show full l = (acc, 0, 0) by
          rw [hT.out, HL.out, lxs_end (by rw [HK.out, List.length_drop]; omega)]
          simp [prep])
        have hd : decide (k = l.length) = true := by simpa using hend
        have HE := Lib.hid hend
        clear hend
        go_wp2_with fail
        refine (ended_any HS.out).mono ?_; rintro e w2 ⟨rfl, m, rfl⟩
        go_wp2_with fail
        refine bodyPost_ret (v := .tuple #[u2, .int .i64 0, .int .i64 0]) (by simp [results, Try.results11, go_sem]) rfl ?_
        exact TksPost.mk he.out rfl ((Toks.of_own HV.out).below (below_drewN (Below.refl _ _) m)) (below_drewN HB.out m)
      · have hd : decide (k = l.length) = false := by simpa using hend
        have hkl : k < l.length := by omega
        clear hend
        go_wp2_with fail
        refine (ended_any HS.out).mono ?_; rintro e w2 ⟨rfl, m, rfl⟩
        have HS2 := Lib.hid (HS.out.drewN m)
        have HB2 := Lib.hid (below_drewN HB.out m)
        have c1 : (wr.drewN m).cell? ⟨w.heap.size, 1, none⟩ = some (.int .i64 (k : Int)) := HS2.out.cell 1
        go_wp2_with fail
        refine (reader_any HS2.out).mono ?_
        rintro e w3 ⟨K, rfl, ⟨hE, hR⟩, m2, rfl⟩
        have HR := Lib.hid hR
        have HS3 := Lib.hid (HS2.out.drewN m2)
        have HB3 := Lib.hid (below_drewN HB2.out m2)
        have HV3 : Hid (((wr.drewN m).drewN m2).ownsRow (w.heap.size + 1) 35 4 u2 acc.length (acc.flatMap tcells)) := HV.out
        clear hR c1
        generalize hw3 : (wr.drewN m).drewN m2 = w3 at *
        clear hw3 HS2 HB2
        cases htk : tk (l.drop k) with
        | err x =>
          have HX := Lib.hid htk
          have he := Lib.hid (show full l = ([], k, x) by
            rw [hT.out, HL.out, lxs_err (e := x) (by rw [HK.out, List.length_drop]; omega) (by rw [HK.out, List.drop_zero]; exact htk), HK.out]
            have := tk_errn htk
            simp [prep, this])
          have hx0 : ((x : Int) != 0) = true := by have := tk_errn htk; simp; omega
          clear htk
          go_wp2_with fail
          refine (HR.out _ HS3.out).mono ?_
          rw [HX.out]
          rintro e w4 ⟨rfl, O4⟩
          unfold tokV
          have hbe := Lib.hid (((HB3.out.trans (O4.toBelow (Nat.le_refl _) HB3.out.size)).alloc (Nat.le_trans HB3.out.size O4.size) (.cells #[.int .i64 0, .string (ofL []), .int .i64 0, .int .i64 0] 35)))
          clear O4
          go_wp2_with fail
          refine bodyPost_ret (v := .tuple #[.slice none 0 0, .int .i64 (k : Int), .int .i64 (x : Int)]) (by simp [results, Try.results11, go_sem]) rfl ?_
          exact TksPost.mk he.out rfl (Toks.nil _) hbe.out
        | ok kd t v n =>
          have HX := Lib.hid htk
          have htl := tk_len htk
          rw [List.length_drop] at htl
          obtain ⟨hn1, hn2⟩ := htl
          clear htk
          go_wp2_with fail
          refine (HR.out _ HS3.out).mono ?_
          rw [HX.out]
          rintro e w4 ⟨rfl, S4, O4⟩
          unfold tokV
          have ht8 : (ofL t).size ≤ 281474976710656 := by rw [ofL_size]; have := tk_tl HX.out; omega
          have hB4 := Lib.hid (HB3.out.trans (O4.toBelow (Nat.le_refl _) HB3.out.size))
          have hS4 := Lib.hid S4
          have hV4 := Lib.hid (own_keepK HV3.out (fun a ha hb => O4.block a ha (by omega)))
          have hsz4 : w.heap.size + 1 ≤ w4.heap.size := by have := hS4.out.lt; omega
          clear O4 S4
          go_wp2_with fail
          refine (clone_any _ _ ht8).mono ?_
          rintro e w5 ⟨rfl, hb5⟩
          have hT5 := Lib.hid ((TBox.made w4 kd v 0 t).below hb5)
          have hB5 := Lib.hid ((((Below.refl w4.heap.size w4).alloc (Nat.le_refl _) (.cells #[.int .i64 (kd : Int), .string (ofL t), .int .i64 (v : Int), .int .i64 0] 35)).trans (hb5.mono (by simp))))
          obtain ⟨d0, d1, d2, d3, f0, f1, f2, f3⟩ := hT5.out.facts
          have hT7 : Hid (TBox ((w5.setCell ⟨w4.heap.size, 1, none⟩ (.string (ofL t))).setCell ⟨w4.heap.size, 3, none⟩ (.int .i64 (k : Int))) w4.heap.size kd t v k) := (hT5.out.set1 t).set3 k
          have hB7 : Hid (Below w4.heap.size w4 ((w5.setCell ⟨w4.heap.size, 1, none⟩ (.string (ofL t))).setCell ⟨w4.heap.size, 3, none⟩ (.int .i64 (k : Int)))) := (hB5.out.setCell (Nat.le_refl _) _).setCell (Nat.le_refl _) _
          have hz7 : Hid (((w5.setCell ⟨w4.heap.size, 1, none⟩ (.string (ofL t))).setCell ⟨w4.heap.size, 3, none⟩ (.int .i64 (k : Int))).heap.size = w5.heap.size) := by unfold Hid; simp [World.setCell]
          have hS7 := Lib.hid (hS4.out.keep (hB7.out.block _ hS4.out.lt))
          have hV7 := Lib.hid (own_keepK hV4.out (fun a ha _ => hB7.out.block a ha))
          have hBB := Lib.hid (hB4.out.trans (hB7.out.mono hB4.out.size))
          have hsz7 : w.heap.size + 1 ≤ ((w5.setCell ⟨w4.heap.size, 1, none⟩ (.string (ofL t))).setCell ⟨w4.heap.size, 3, none⟩ (.int .i64 (k : Int))).heap.size := Nat.le_trans hsz4 hB7.out.size
          clear hb5
          have hacc : (acc.length + 1) * 40 ≤ 140737488355328 := by omega
          go_wp2_with (at_builtin; refine app4 rfl _ _ 23 rfl 35 _ 40 info_tok Try.underlying23 rfl (w.heap.size + 1) _ _ _ rfl hV7.out _ _ _ _ (by rw [hz7.out]; rfl) (by simp [Value.oneCell']) hacc (by omega) hsz7 ?_; intro v' w8 hown8 hf8; have hV8 := Lib.hid hown8; have hF8 := Lib.hid hf8; clear hown8 hf8; have hS8 : Hid (Scn w8 w.heap.size l (k + n)) := ⟨hF8.out.keeps hS7.out.blk (by decide), hS7.out.off, hS7.out.room⟩)
          have hBB8 := Lib.hid (hBB.out.trans ((hF8.out.below hsz7).mono (by omega)))
          refine (skip_any hS8.out).mono ?_
          rintro e w9 ⟨rfl, S9, O9⟩
          have hS9 := Lib.hid S9
          have hV9 := Lib.hid (own_keepK hV8.out (fun a ha hb => O9.block a ha (by omega)))
          have hB9 := Lib.hid (hBB8.out.trans (O9.toBelow (Nat.le_refl _) hBB8.out.size))
          clear S9 O9
          go_wp2_with fail
          go_roundg (gk - n)
          case rel =>
            refine ⟨k + n + sk false (l.drop (k + n)), acc ++ [⟨kd, t, v, k⟩], by omega, by simp; omega, hS9, hB9, ?_, ?_, ?_⟩
            · have h9 := hV9.out
              rw [List.length_append, List.flatMap_append]
              exact h9
            · unfold Hid
              rw [HL.out, lxs_ok (k := kd) (t := t) (v := v) (m := n) (by rw [HK.out, List.length_drop]; omega) (by rw [HK.out, List.drop_zero]; exact HX.out), HK.out, prep_push]
              simp only [Nat.add_zero, List.drop_drop]
              rw [lxs_skip (k + n), List.drop_drop]
            · unfold Hid
              rw [← List.drop_drop]
              exact sk_idem false _
          case measure => omega
end Go.Proofs.Ytolanmdckdjfeaa
