/- Layer 13: ZoneUnion, the walk (tools/gen_zy.py). -/
import Derived.Test.YtepeeeiekeppjaaZnRj
import Derived.Test.YtepeeeiekeppjaaZnRw
import Derived.Test.YtepeeeiekeppjaaZnPj
import Derived.Test.YtepeeeiekeppjaaZnLw
import Derived.Test.YtepeeeiekeppjaaWd
namespace Go.Proofs.Ytepeeeiekeppjaa
open Go.RowKit

theorem union_rows (N : Int) (a : List Int) (M : Int) (b : List Int) :
    ∃ nj jl ej nw wl ew, joinZ N a M b = ((nj, jl), .int .i64 ej) ∧ widZ N a M b = ((nw, wl), .int .i64 ew) ∧ jl.length ≤ 9223372036854775807 ∧ wl.length ≤ 9223372036854775807 ∧ zvB nj jl = (ej == 0) := by
  cases hali : aliB N a M b with
  | false =>
    obtain ⟨h1, h2⟩ := least_bad hali
    refine ⟨_, _, _, _, _, _, h1, h2, by simp, by simp, ?_⟩
    cases h : zvB 0 [] with
    | false => rfl
    | true =>
      obtain ⟨m, -, -, hl, -⟩ := zv_nat h
      have : 0 < (m + 1) * (m + 1) := Nat.mul_pos (by omega) (by omega)
      simp at hl
  | true =>
    obtain ⟨m, rfl, rfl, hm, hz1, hz2⟩ := aliB_nat hali
    obtain ⟨jl, wl, hj, hw, hvj, hvw, -, -, -, -⟩ := least_facts hz1 hz2
    have hll : ∀ l : List Int, Zv (m + 1) l → l.length ≤ 9223372036854775807 := fun l hl => by rw [hl.len]; exact Nat.le_trans (Nat.mul_le_mul (by omega : m + 1 ≤ 25) (by omega : m + 1 ≤ 25)) (by decide)
    exact ⟨_, _, _, _, _, _, hj, hw, hll _ hvj, hll _ hvw, zvB_iff.2 ⟨m + 1, by push_cast; omega, hvj⟩⟩
set_option maxRecDepth 20000 in
set_option maxHeartbeats 2000000 in
theorem zoneunion_walk (N1 : Int) (A1 : Option Addr) (c1 : Nat) (a : List Int) (N2 : Int) (A2 : Option Addr) (c2 : Nat) (b : List Int) (w : World)
    (h1 : Sl iv w (.slice A1 a.length c1) a) (hl1 : a.length ≤ 9223372036854775807) (h2 : Sl iv w (.slice A2 b.length c2) b) (hl2 : b.length ≤ 9223372036854775807) :
    Calls Try.prog 5 #[.agg #[.int .i64 N1, .slice A1 a.length c1], .agg #[.int .i64 N2, .slice A2 b.length c2]] w (Tells w (.bool true)) := by
  have H1 := Lib.hid h1
  have H2 := Lib.hid h2
  have HL1 := Lib.hid hl1
  have HL2 := Lib.hid hl2
  clear h1 h2 hl1 hl2
  go_enter Try.func5, Try.ntmps5
  go_wp2_with fail
  refine (awake_any _).mono ?_; rintro e w1 ⟨rfl, hb1⟩
  obtain ⟨HX1, HX2, HB1⟩ := two_boxes rfl rfl hb1
  obtain ⟨x0, x1⟩ := HX1.out.k2
  clear hb1
  go_wp2_with fail
  refine (few_any N1 A1 c1 a _ HL1.out).mono ?_; rintro e w2 ⟨rfl, hb2⟩
  have HB2 := Lib.hid (HB1.out.trans (hb2.mono HB1.out.size))
  have HX12 := Lib.hid (HX1.out.below hb2)
  have HX22 := Lib.hid (HX2.out.below hb2)
  clear hb2 x0 x1 HB1 HX1 HX2
  cases hfa : fewB N1 a with
  | false =>
    clear hfa HX12 HX22
    go_wp2_with fail
    refine (awake_any _).mono ?_; rintro e w3 ⟨rfl, hb3⟩
    have HB3 := Lib.hid (HB2.out.trans (hb3.mono HB2.out.size))
    clear hb3 HB2
    go_wp2_with fail
    go_ret
    exact Tells.of HB3.out
  | true =>
  clear hfa
  obtain ⟨x0, x1⟩ := HX22.out.k2
  go_wp2_with fail
  refine (few_any N2 A2 c2 b _ HL2.out).mono ?_; rintro e w4 ⟨rfl, hb3⟩
  have HB4 := Lib.hid (HB2.out.trans (hb3.mono HB2.out.size))
  have HXA := Lib.hid (HX12.out.below hb3)
  have HXB := Lib.hid (HX22.out.below hb3)
  have HSA := Lib.hid (H1.out.below HB4.out)
  have HSB := Lib.hid (H2.out.below HB4.out)
  clear hb3 x0 x1 HB2 HX12 HX22
  cases hfb : fewB N2 b with
  | false =>
    clear hfb HXA HXB HSA HSB
    go_wp2_with fail
    refine (awake_any _).mono ?_; rintro e w5 ⟨rfl, hb4⟩
    have HB5 := Lib.hid (HB4.out.trans (hb4.mono HB4.out.size))
    clear hb4 HB4
    go_wp2_with fail
    go_ret
    exact Tells.of HB5.out
  | true =>
  clear hfb
  obtain ⟨nj, jl, ej, nw, wl, ew, hj, hw, hlj, hlw, hvv⟩ := union_rows N1 a N2 b
  have HJ := Lib.hid hj
  have HW := Lib.hid hw
  have HLJ := Lib.hid hlj
  have HLW := Lib.hid hlw
  have HVV := Lib.hid hvv
  clear hj hw hlj hlw hvv
  have HJO := Lib.hid (show ∀ w6, Below w4.heap.size w4 w6 → Calls Try.prog 31 #[.agg #[.int .i64 N1, .slice A1 a.length c1], .agg #[.int .i64 N2, .slice A2 b.length c2]] w6 (ZP w6 ((nj, jl), .int .i64 ej)) from
    fun w6 h6 => by rw [← HJ.out]; exact join_any N1 N2 _ _ a b w6 (HSA.out.below h6) HL1.out (HSB.out.below h6) HL2.out)
  go_wp2_with fail
  refine region_invE (n := 92) (LwI (w4) 29 (fun zz => match zz with | 0 => .agg #[.int .i64 N1, .slice A1 a.length c1] | 1 => .agg #[.int .i64 N1, .slice A1 a.length c1] | 2 => .agg #[.int .i64 N2, .slice A2 b.length c2] | 3 => .agg #[.int .i64 N2, .slice A2 b.length c2] | _ => undef) 4 (((nj, jl), .int .i64 ej))) (by kernel_rfl) (by kernel_rfl) rfl ?_ (allOps_spec ?_) ?_
  · intro vs
    exact LwI.start
  · refine ⟨?_, ?_, ?_, ?_, ?_, ?_, ?_, ?_, ?_, ?_, ?_, trivial⟩
    · intro L vs ac w6 hB hL hd hI
      have b2 : ac.tmps[2]?.getD undef = .pointer (some ⟨w.heap.size, 0, none⟩) := hB.at 2 (by kernel_rfl)
      have hlk : L 4 = false := (hB.wait 1 4 (hB.wait 0 1 hL (by kernel_rfl)) (by kernel_rfl))
      have hx := hI.bel
      have q0 := (HXA.out.below hx).cell 0
      have q1 := (HXA.out.below hx).cell 1
      exact stepI_run (v := .agg #[.int .i64 N1, .slice A1 a.length c1]) rfl (by simp [execOp, go_sem, Act.eval, b2, q0, q1]) (hI.plain 0 (by decide) hlk (Below.refl _ _))
    · intro L vs ac w6 hB hL hd hI
      have b27 : ac.tmps[27]?.getD undef = .agg #[.int .i64 N1, .slice A1 a.length c1] := (hB.val 0 (hd ⟨0, .data⟩ (by simp) rfl) 27 rfl).trans (hI.v 0 (by decide) (hd ⟨0, .data⟩ (by simp) rfl))
      have hlk : L 4 = false := (hB.wait 1 4 hL (by kernel_rfl))
      have hx := hI.bel
      refine stepI_call (f := 15) (args := #[.agg #[.int .i64 N1, .slice A1 a.length c1]]) rfl (by simp [go_sem, b27]) ?_
      refine (own_any N1 A1 a.length c1 w6).mono ?_
      rintro e w9 ⟨rfl, h9⟩
      exact ⟨_, rfl, hI.plain 1 (by decide) hlk h9⟩
    · intro L vs ac w6 hB hL hd hI
      have b3 : ac.tmps[3]?.getD undef = .pointer (some ⟨w.heap.size + 1, 0, none⟩) := hB.at 3 (by kernel_rfl)
      have hlk : L 4 = false := (hB.wait 3 4 (hB.wait 2 3 hL (by kernel_rfl)) (by kernel_rfl))
      have hx := hI.bel
      have q0 := (HXB.out.below hx).cell 0
      have q1 := (HXB.out.below hx).cell 1
      exact stepI_run (v := .agg #[.int .i64 N2, .slice A2 b.length c2]) rfl (by simp [execOp, go_sem, Act.eval, b3, q0, q1]) (hI.plain 2 (by decide) hlk (Below.refl _ _))
    · intro L vs ac w6 hB hL hd hI
      have b29 : ac.tmps[29]?.getD undef = .agg #[.int .i64 N2, .slice A2 b.length c2] := (hB.val 2 (hd ⟨2, .data⟩ (by simp) rfl) 29 rfl).trans (hI.v 2 (by decide) (hd ⟨2, .data⟩ (by simp) rfl))
      have hlk : L 4 = false := (hB.wait 3 4 hL (by kernel_rfl))
      have hx := hI.bel
      refine stepI_call (f := 15) (args := #[.agg #[.int .i64 N2, .slice A2 b.length c2]]) rfl (by simp [go_sem, b29]) ?_
      refine (own_any N2 A2 b.length c2 w6).mono ?_
      rintro e w9 ⟨rfl, h9⟩
      exact ⟨_, rfl, hI.plain 3 (by decide) hlk h9⟩
    · intro L vs ac w6 hB hL hd hI
      have b28 : ac.tmps[28]?.getD undef = .agg #[.int .i64 N1, .slice A1 a.length c1] := (hB.val 1 (hd ⟨1, .data⟩ (by simp) rfl) 28 rfl).trans (hI.v 1 (by decide) (hd ⟨1, .data⟩ (by simp) rfl))
      have b30 : ac.tmps[30]?.getD undef = .agg #[.int .i64 N2, .slice A2 b.length c2] := (hB.val 3 (hd ⟨3, .data⟩ (by simp) rfl) 30 rfl).trans (hI.v 3 (by decide) (hd ⟨3, .data⟩ (by simp) rfl))
      have hl1 : L 5 = false := hB.wait 4 5 hL (by kernel_rfl)
      have hl2 : L 6 = false := hB.wait 5 6 hl1 (by kernel_rfl)
      have hl5 : L 9 = false := hB.wait 6 9 hl2 (by kernel_rfl)
      have hx := hI.bel
      refine stepI_call (f := 31) (args := #[.agg #[.int .i64 N1, .slice A1 a.length c1], .agg #[.int .i64 N2, .slice A2 b.length c2]]) rfl (by simp [go_sem, b28, b30]) ?_
      exact (HJO.out w6 hx).mono fun e w9 h9 => hI.call hl1 hl2 hl5 h9
    · intro L vs ac w6 hB hL hd hI
      have hk : L 4 = true := hd ⟨4, .data⟩ (by simp) rfl
      have b : ac.tmps[31]?.getD undef = vs 4 := hB.val 4 hk 31 rfl
      exact stepI_run (v := vs 4) rfl (by simp [execOp, go_sem, Act.eval, b]) (hI.move hk)
    · intro L vs ac w6 hB hL hd hI
      have hm := hI.m (hd ⟨5, .data⟩ (by simp) rfl)
      obtain ⟨A9, c9, ek, -⟩ := hI.c hm.1
      have b : ac.tmps[26]?.getD undef = _ := (hB.val 5 (hd ⟨5, .data⟩ (by simp) rfl) 26 rfl).trans (hm.2.trans ek)
      exact stepI_run (v := fstV (vs 4)) rfl (by simp [execOp, go_sem, Act.eval, b, ek, fstV]) (hI.ext0 hm.1)
    · intro L vs ac w6 hB hL hd hI
      have hm := hI.m (hd ⟨5, .data⟩ (by simp) rfl)
      obtain ⟨A9, c9, ek, -⟩ := hI.c hm.1
      have b : ac.tmps[26]?.getD undef = _ := (hB.val 5 (hd ⟨5, .data⟩ (by simp) rfl) 26 rfl).trans (hm.2.trans ek)
      exact stepI_run (v := (((nj, jl), .int .i64 ej) : (Int × List Int) × Value).2) rfl (by simp [execOp, go_sem, Act.eval, b]) hI.ext1
    · intro L vs ac w6 hB hL hd hI
      have hl5 : L 9 = false := hB.wait 8 9 hL (by kernel_rfl)
      exact stepI_run (v := .pointer (some ⟨w6.heap.size, 0, none⟩)) (w' := w6.alloc (.cells #[.int .i64 0, .slice none 0 0] 29)) rfl (exec_alloc 29 rfl info_Zn) (hI.alc hl5)
    · intro L vs ac w6 hB hL hd hI
      have h4 : L 8 = true := hd ⟨8, .data⟩ (by simp) rfl
      have h2 : L 6 = true := hd ⟨6, .data⟩ (by simp) rfl
      obtain ⟨hk, e2⟩ := hI.e0 h2
      obtain ⟨A9, c9, ek, -⟩ := hI.c hk
      obtain ⟨nb, hv, -, hx, -⟩ := hI.al h4
      rw [hL, if_neg Bool.false_ne_true] at hx
      have bp : ac.tmps[5]?.getD undef = .pointer (some ⟨nb, 0, none⟩) := (hB.val 8 h4 5 rfl).trans hv
      have bq : ac.tmps[32]?.getD undef = .agg (cellsV (fstV (vs 4))) := (hB.val 6 h2 32 rfl).trans (e2.trans (by rw [ek]; rfl))
      exact stepI_store_row rfl 29 5 32 rfl nb _ bp bq _ hx (by rw [ek]; kernel_rfl) (by rw [ek]; rfl) (by rw [ek]; simp [cellsV, fstV, Value.oneCell']) (hI.sto h4 hk hv)
    · intro L vs ac w6 hB hL hd hI
      have h3 : L 7 = true := hd ⟨7, .data⟩ (by simp) rfl
      have b : ac.tmps[33]?.getD undef = (((nj, jl), .int .i64 ej) : (Int × List Int) × Value).2 := (hB.val 7 h3 33 rfl).trans (hI.e1 h3)
      exact stepI_run (v := (((nj, jl), .int .i64 ej) : (Int × List Int) × Value).2) rfl (by simp [execOp, go_sem, Act.eval, b]) hI.asg
  · intro L vs w5 hall hI
    obtain ⟨nb5, A5, c5, e1, e2, hnb5, hx5, ho5, hne5, hb5⟩ := hI.fin fun i hi => hall i hi
    clear hI hall
    simp only [putAll, Act.put, List.setIfInBounds_toArray, List.set_cons_zero, List.set_cons_succ, Nat.zero_add, Nat.reduceAdd, e1, e2]
    clear e1 e2
    dsimp only at hx5 ho5 hne5
    have HB5 := Lib.hid (HB4.out.trans (hb5.mono HB4.out.size))
    have HXA5 := Lib.hid (HXA.out.below hb5)
    have HXB5 := Lib.hid (HXB.out.below hb5)
    have HSA5 := Lib.hid (HSA.out.below hb5)
    have HSB5 := Lib.hid (HSB.out.below hb5)
    have HN5 := Lib.hid hx5
    have HS5 := Lib.hid (Own.sl ho5)
    obtain ⟨x0, x1⟩ := HXA5.out.k2
    obtain ⟨d0, d1⟩ := HXB5.out.k2
    clear hx5 ho5 hne5 hb5 hnb5 HB4 HXA HXB HSA HSB HJO
    go_wp2_with fail
    refine (rjoin_any N1 N2 _ _ a b _ HSA5.out HL1.out HSB5.out HL2.out).mono ?_; rintro e w6 ⟨v6, rfl, ho6, hb6⟩; rw [HJ.out] at ho6 ⊢
    dsimp only at ho6 ⊢
    obtain ⟨A6, c6, rfl⟩ := own_shapeG ho6
    have hb6a := hb6.trans ((al1 w6 (.cells #[.int .i64 nj, .slice A6 jl.length c6] 24)).mono hb6.size)
    have HB6 := Lib.hid (HB5.out.trans (hb6a.mono HB5.out.size))
    have HXA6 := Lib.hid (HXA5.out.below hb6a)
    have HXB6 := Lib.hid (HXB5.out.below hb6a)
    have HSA6 := Lib.hid (HSA5.out.below hb6a)
    have HSB6 := Lib.hid (HSB5.out.below hb6a)
    have HN6 := Lib.hid (HN5.out.below hb6a)
    have HS6 := Lib.hid (HS5.out.below hb6a)
    have HM6 := Lib.hid (Bx.new w6 24 #[.int .i64 nj, .slice A6 jl.length c6])
    have HT6 := Lib.hid ((Own.sl (show Own w6 _ _ _ jl from ho6)).below (al1 w6 (.cells #[.int .i64 nj, .slice A6 jl.length c6] 24)))
    clear x0 x1 d0 d1 HB5 HXA5 HXB5 HSA5 HSB5 HN5 HS5 hb6 ho6 hb6a
    generalize hq6 : w6.heap.size = q6 at *
    generalize hwa : w6.alloc (.cells #[.int .i64 nj, .slice A6 jl.length c6] 24) = wa at *
    have HWO := Lib.hid (show ∀ w6, Below wa.heap.size wa w6 → Calls Try.prog 33 #[.agg #[.int .i64 N1, .slice A1 a.length c1], .agg #[.int .i64 N2, .slice A2 b.length c2]] w6 (ZP w6 ((nw, wl), .int .i64 ew)) from
      fun w6 h6 => by rw [← HW.out]; exact widen_any N1 N2 _ _ a b w6 (HSA6.out.below h6) HL1.out (HSB6.out.below h6) HL2.out)
    go_wp2_with (first | rw [hwa] | rw [hq6])
    clear hwa hq6
    refine region_invE (n := 92) (LwI (wa) 29 (fun zz => match zz with | 0 => .agg #[.int .i64 N1, .slice A1 a.length c1] | 1 => .agg #[.int .i64 N1, .slice A1 a.length c1] | 2 => .agg #[.int .i64 N2, .slice A2 b.length c2] | 3 => .agg #[.int .i64 N2, .slice A2 b.length c2] | _ => undef) 4 (((nw, wl), .int .i64 ew))) (by kernel_rfl) (by kernel_rfl) rfl ?_ (allOps_spec ?_) ?_
    · intro vs
      exact LwI.start
    · refine ⟨?_, ?_, ?_, ?_, ?_, ?_, ?_, ?_, ?_, ?_, ?_, trivial⟩
      · intro L vs ac w6 hB hL hd hI
        have b2 : ac.tmps[2]?.getD undef = .pointer (some ⟨w.heap.size, 0, none⟩) := hB.at 2 (by kernel_rfl)
        have hlk : L 4 = false := (hB.wait 1 4 (hB.wait 0 1 hL (by kernel_rfl)) (by kernel_rfl))
        have hx := hI.bel
        have q0 := (HXA6.out.below hx).cell 0
        have q1 := (HXA6.out.below hx).cell 1
        exact stepI_run (v := .agg #[.int .i64 N1, .slice A1 a.length c1]) rfl (by simp [execOp, go_sem, Act.eval, b2, q0, q1]) (hI.plain 0 (by decide) hlk (Below.refl _ _))
      · intro L vs ac w6 hB hL hd hI
        have b41 : ac.tmps[41]?.getD undef = .agg #[.int .i64 N1, .slice A1 a.length c1] := (hB.val 0 (hd ⟨0, .data⟩ (by simp) rfl) 41 rfl).trans (hI.v 0 (by decide) (hd ⟨0, .data⟩ (by simp) rfl))
        have hlk : L 4 = false := (hB.wait 1 4 hL (by kernel_rfl))
        have hx := hI.bel
        refine stepI_call (f := 15) (args := #[.agg #[.int .i64 N1, .slice A1 a.length c1]]) rfl (by simp [go_sem, b41]) ?_
        refine (own_any N1 A1 a.length c1 w6).mono ?_
        rintro e w9 ⟨rfl, h9⟩
        exact ⟨_, rfl, hI.plain 1 (by decide) hlk h9⟩
      · intro L vs ac w6 hB hL hd hI
        have b3 : ac.tmps[3]?.getD undef = .pointer (some ⟨w.heap.size + 1, 0, none⟩) := hB.at 3 (by kernel_rfl)
        have hlk : L 4 = false := (hB.wait 3 4 (hB.wait 2 3 hL (by kernel_rfl)) (by kernel_rfl))
        have hx := hI.bel
        have q0 := (HXB6.out.below hx).cell 0
        have q1 := (HXB6.out.below hx).cell 1
        exact stepI_run (v := .agg #[.int .i64 N2, .slice A2 b.length c2]) rfl (by simp [execOp, go_sem, Act.eval, b3, q0, q1]) (hI.plain 2 (by decide) hlk (Below.refl _ _))
      · intro L vs ac w6 hB hL hd hI
        have b43 : ac.tmps[43]?.getD undef = .agg #[.int .i64 N2, .slice A2 b.length c2] := (hB.val 2 (hd ⟨2, .data⟩ (by simp) rfl) 43 rfl).trans (hI.v 2 (by decide) (hd ⟨2, .data⟩ (by simp) rfl))
        have hlk : L 4 = false := (hB.wait 3 4 hL (by kernel_rfl))
        have hx := hI.bel
        refine stepI_call (f := 15) (args := #[.agg #[.int .i64 N2, .slice A2 b.length c2]]) rfl (by simp [go_sem, b43]) ?_
        refine (own_any N2 A2 b.length c2 w6).mono ?_
        rintro e w9 ⟨rfl, h9⟩
        exact ⟨_, rfl, hI.plain 3 (by decide) hlk h9⟩
      · intro L vs ac w6 hB hL hd hI
        have b42 : ac.tmps[42]?.getD undef = .agg #[.int .i64 N1, .slice A1 a.length c1] := (hB.val 1 (hd ⟨1, .data⟩ (by simp) rfl) 42 rfl).trans (hI.v 1 (by decide) (hd ⟨1, .data⟩ (by simp) rfl))
        have b44 : ac.tmps[44]?.getD undef = .agg #[.int .i64 N2, .slice A2 b.length c2] := (hB.val 3 (hd ⟨3, .data⟩ (by simp) rfl) 44 rfl).trans (hI.v 3 (by decide) (hd ⟨3, .data⟩ (by simp) rfl))
        have hl1 : L 5 = false := hB.wait 4 5 hL (by kernel_rfl)
        have hl2 : L 6 = false := hB.wait 5 6 hl1 (by kernel_rfl)
        have hl5 : L 9 = false := hB.wait 6 9 hl2 (by kernel_rfl)
        have hx := hI.bel
        refine stepI_call (f := 33) (args := #[.agg #[.int .i64 N1, .slice A1 a.length c1], .agg #[.int .i64 N2, .slice A2 b.length c2]]) rfl (by simp [go_sem, b42, b44]) ?_
        exact (HWO.out w6 hx).mono fun e w9 h9 => hI.call hl1 hl2 hl5 h9
      · intro L vs ac w6 hB hL hd hI
        have hk : L 4 = true := hd ⟨4, .data⟩ (by simp) rfl
        have b : ac.tmps[45]?.getD undef = vs 4 := hB.val 4 hk 45 rfl
        exact stepI_run (v := vs 4) rfl (by simp [execOp, go_sem, Act.eval, b]) (hI.move hk)
      · intro L vs ac w6 hB hL hd hI
        have hm := hI.m (hd ⟨5, .data⟩ (by simp) rfl)
        obtain ⟨A9, c9, ek, -⟩ := hI.c hm.1
        have b : ac.tmps[40]?.getD undef = _ := (hB.val 5 (hd ⟨5, .data⟩ (by simp) rfl) 40 rfl).trans (hm.2.trans ek)
        exact stepI_run (v := fstV (vs 4)) rfl (by simp [execOp, go_sem, Act.eval, b, ek, fstV]) (hI.ext0 hm.1)
      · intro L vs ac w6 hB hL hd hI
        have hm := hI.m (hd ⟨5, .data⟩ (by simp) rfl)
        obtain ⟨A9, c9, ek, -⟩ := hI.c hm.1
        have b : ac.tmps[40]?.getD undef = _ := (hB.val 5 (hd ⟨5, .data⟩ (by simp) rfl) 40 rfl).trans (hm.2.trans ek)
        exact stepI_run (v := (((nw, wl), .int .i64 ew) : (Int × List Int) × Value).2) rfl (by simp [execOp, go_sem, Act.eval, b]) hI.ext1
      · intro L vs ac w6 hB hL hd hI
        have hl5 : L 9 = false := hB.wait 8 9 hL (by kernel_rfl)
        exact stepI_run (v := .pointer (some ⟨w6.heap.size, 0, none⟩)) (w' := w6.alloc (.cells #[.int .i64 0, .slice none 0 0] 29)) rfl (exec_alloc 29 rfl info_Zn) (hI.alc hl5)
      · intro L vs ac w6 hB hL hd hI
        have h4 : L 8 = true := hd ⟨8, .data⟩ (by simp) rfl
        have h2 : L 6 = true := hd ⟨6, .data⟩ (by simp) rfl
        obtain ⟨hk, e2⟩ := hI.e0 h2
        obtain ⟨A9, c9, ek, -⟩ := hI.c hk
        obtain ⟨nb, hv, -, hx, -⟩ := hI.al h4
        rw [hL, if_neg Bool.false_ne_true] at hx
        have bp : ac.tmps[9]?.getD undef = .pointer (some ⟨nb, 0, none⟩) := (hB.val 8 h4 9 rfl).trans hv
        have bq : ac.tmps[46]?.getD undef = .agg (cellsV (fstV (vs 4))) := (hB.val 6 h2 46 rfl).trans (e2.trans (by rw [ek]; rfl))
        exact stepI_store_row rfl 29 9 46 rfl nb _ bp bq _ hx (by rw [ek]; kernel_rfl) (by rw [ek]; rfl) (by rw [ek]; simp [cellsV, fstV, Value.oneCell']) (hI.sto h4 hk hv)
      · intro L vs ac w6 hB hL hd hI
        have h3 : L 7 = true := hd ⟨7, .data⟩ (by simp) rfl
        have b : ac.tmps[47]?.getD undef = (((nw, wl), .int .i64 ew) : (Int × List Int) × Value).2 := (hB.val 7 h3 47 rfl).trans (hI.e1 h3)
        exact stepI_run (v := (((nw, wl), .int .i64 ew) : (Int × List Int) × Value).2) rfl (by simp [execOp, go_sem, Act.eval, b]) hI.asg
    · intro L vs w7 hall hI
      obtain ⟨nb7, A7, c7, e1, e2, hnb7, hx7, ho7, hne7, hb7⟩ := hI.fin fun i hi => hall i hi
      clear hI hall
      simp only [putAll, Act.put, List.setIfInBounds_toArray, List.set_cons_zero, List.set_cons_succ, Nat.zero_add, Nat.reduceAdd, e1, e2]
      clear e1 e2
      dsimp only at hx7 ho7 hne7
      have HB7 := Lib.hid (HB6.out.trans (hb7.mono HB6.out.size))
      have HXA7 := Lib.hid (HXA6.out.below hb7)
      have HXB7 := Lib.hid (HXB6.out.below hb7)
      have HSA7 := Lib.hid (HSA6.out.below hb7)
      have HSB7 := Lib.hid (HSB6.out.below hb7)
      have HN7 := Lib.hid (HN6.out.below hb7)
      have HS7 := Lib.hid (HS6.out.below hb7)
      have HM7 := Lib.hid (HM6.out.below hb7)
      have HT7 := Lib.hid (HT6.out.below hb7)
      have HO7 := Lib.hid hx7
      have HU7 := Lib.hid (Own.sl ho7)
      obtain ⟨x0, x1⟩ := HXA7.out.k2
      obtain ⟨d0, d1⟩ := HXB7.out.k2
      clear hx7 ho7 hne7 hb7 hnb7 HB6 HXA6 HXB6 HSA6 HSB6 HN6 HS6 HM6 HT6 HWO
      go_wp2_with fail
      refine (rwiden_any N1 N2 _ _ a b _ HSA7.out HL1.out HSB7.out HL2.out).mono ?_; rintro e w8 ⟨v8, rfl, ho8, hb8⟩; rw [HW.out] at ho8 ⊢
      dsimp only at ho8 ⊢
      obtain ⟨A8, c8, rfl⟩ := own_shapeG ho8
      have hb8a := hb8.trans ((al1 w8 (.cells #[.int .i64 nw, .slice A8 wl.length c8] 24)).mono hb8.size)
      have HB8 := Lib.hid (HB7.out.trans (hb8a.mono HB7.out.size))
      have HXA8 := Lib.hid (HXA7.out.below hb8a)
      have HXB8 := Lib.hid (HXB7.out.below hb8a)
      have HSA8 := Lib.hid (HSA7.out.below hb8a)
      have HSB8 := Lib.hid (HSB7.out.below hb8a)
      have HN8 := Lib.hid (HN7.out.below hb8a)
      have HS8 := Lib.hid (HS7.out.below hb8a)
      have HM8 := Lib.hid (HM7.out.below hb8a)
      have HT8 := Lib.hid (HT7.out.below hb8a)
      have HO8 := Lib.hid (HO7.out.below hb8a)
      have HU8 := Lib.hid (HU7.out.below hb8a)
      have HP8 := Lib.hid (Bx.new w8 24 #[.int .i64 nw, .slice A8 wl.length c8])
      have HV8 := Lib.hid ((Own.sl (show Own w8 _ _ _ wl from ho8)).below (al1 w8 (.cells #[.int .i64 nw, .slice A8 wl.length c8] 24)))
      clear x0 x1 d0 d1 HB7 HXA7 HXB7 HSA7 HSB7 HN7 HS7 HM7 HT7 HO7 HU7 hb8 ho8 hb8a
      obtain ⟨J, hJ⟩ : ∃ J, J = subR N1 a N2 b := ⟨_, rfl⟩
      obtain ⟨E, hE⟩ : ∃ E, E = (ej == 0) := ⟨_, rfl⟩
      have HJ2 := Lib.hid hJ
      have HE := Lib.hid hE
      clear hJ hE
      go_wp2_with fail
      generalize hww : w8.alloc (.cells #[.int .i64 nw, .slice A8 wl.length c8] 24) = ww at *
      clear hww
      have HSM1 := Lib.hid (show ∀ w6, Below ww.heap.size ww w6 → Calls Try.prog 19 #[.agg #[.int .i64 nj, .slice A5 jl.length c5], .agg #[.int .i64 nj, .slice A6 jl.length c6]] w6 (Tells w6 (.bool true)) from
        fun w6 h6 => by
          have h9 := rsame_any nj nj _ _ jl jl w6 (HS8.out.below h6) HLJ.out (HT8.out.below h6)
          rwa [decide_eq_true (show nj = nj ∧ jl = jl from ⟨rfl, rfl⟩)] at h9)
      have HSM2 := Lib.hid (show ∀ w6, Below ww.heap.size ww w6 → Calls Try.prog 19 #[.agg #[.int .i64 nw, .slice A7 wl.length c7], .agg #[.int .i64 nw, .slice A8 wl.length c8]] w6 (Tells w6 (.bool true)) from
        fun w6 h6 => by
          have h9 := rsame_any nw nw _ _ wl wl w6 (HU8.out.below h6) HLW.out (HV8.out.below h6)
          rwa [decide_eq_true (show nw = nw ∧ wl = wl from ⟨rfl, rfl⟩)] at h9)
      have HIA := Lib.hid (show ∀ w6, Below ww.heap.size ww w6 → Calls Try.prog 35 #[.agg #[.int .i64 N1, .slice A1 a.length c1], .agg #[.int .i64 N2, .slice A2 b.length c2]] w6 (Tells w6 (.bool J)) from
        fun w6 h6 => by rw [HJ2.out]; exact sub_any N1 N2 _ _ a b w6 (HSA8.out.below h6) HL1.out (HSB8.out.below h6) HL2.out)
      have HIB := Lib.hid (show ∀ w6, Below ww.heap.size ww w6 → Calls Try.prog 36 #[.agg #[.int .i64 N1, .slice A1 a.length c1], .agg #[.int .i64 N2, .slice A2 b.length c2]] w6 (Tells w6 (.bool J)) from
        fun w6 h6 => by rw [HJ2.out]; exact rsub_any N1 N2 _ _ a b w6 (HSA8.out.below h6) HL1.out (HSB8.out.below h6) HL2.out)
      have HVA := Lib.hid (show ∀ w6, Below ww.heap.size ww w6 → Calls Try.prog 21 #[.agg #[.int .i64 nj, .slice A5 jl.length c5]] w6 (Tells w6 (.bool E)) from
        fun w6 h6 => by rw [HE.out, ← HVV.out]; exact valid_any nj _ jl w6 (HS8.out.below h6) HLJ.out)
      refine region_phi (n := 92) (Wd [(false, .int .i64 ej),
          (false, .int .i64 ej),
          (false, .bool true),
          (false, .bool true),
          (false, .agg #[.int .i64 nj, .slice A5 jl.length c5]),
          (false, .agg #[.int .i64 nj, .slice A5 jl.length c5]),
          (false, .agg #[.int .i64 nj, .slice A6 jl.length c6]),
          (false, .bool true),
          (false, .bool true),
          (false, .bool true),
          (false, .int .i64 ew),
          (false, .int .i64 ew),
          (false, .bool true),
          (false, .bool true),
          (false, .bool true),
          (false, .agg #[.int .i64 nw, .slice A7 wl.length c7]),
          (false, .agg #[.int .i64 nw, .slice A7 wl.length c7]),
          (false, .agg #[.int .i64 nw, .slice A8 wl.length c8]),
          (false, .bool true),
          (false, .bool true),
          (false, .bool true),
          (false, .agg #[.int .i64 N1, .slice A1 a.length c1]),
          (false, .agg #[.int .i64 N1, .slice A1 a.length c1]),
          (false, .agg #[.int .i64 N2, .slice A2 b.length c2]),
          (false, .agg #[.int .i64 N2, .slice A2 b.length c2]),
          (false, .bool J),
          (false, .agg #[.int .i64 N1, .slice A1 a.length c1]),
          (false, .agg #[.int .i64 N2, .slice A2 b.length c2]),
          (false, .bool J),
          (false, .bool true),
          (false, .bool true),
          (false, .bool true),
          (false, .agg #[.int .i64 nj, .slice A5 jl.length c5]),
          (false, .bool E),
          (false, .int .i64 ej),
          (false, .bool E),
          (false, .bool true),
          (false, .bool true),
          (false, .bool true)]) (by kernel_rfl) (by kernel_rfl) rfl (fun _ _ _ _ h _ => h) (allOps_spec ?_) ?_
      · refine ⟨?_, ?_, ?_, ?_, ?_, ?_, ?_, ?_, ?_, ?_, ?_, ?_, ?_, ?_, ?_, ?_, ?_, ?_, ?_, ?_, ?_, ?_, ?_, ?_, ?_, ?_, ?_, ?_, ?_, ?_, ?_, ?_, ?_, ?_, ?_, ?_, ?_, ?_, ?_, trivial⟩
        · intro ac w' hb hp
          have b6 : ac.tmps[6]?.getD undef = .int .i64 ej := hb.at 6 (by kernel_rfl)
          exact wd_run rfl rfl (by simp [execOp, go_sem, Act.eval, b6])
        · intro ac w' hb hp
          have b8 : ac.tmps[8]?.getD undef = .int .i64 ej := hb.at 8 (by kernel_rfl)
          exact wd_run rfl rfl (by simp [execOp, go_sem, Act.eval, b8])
        · exact fun ac w' hb hp => wd_run rfl rfl (by simp [execOp, go_sem, Act.eval, wd_get (hp ⟨0, .data⟩ (by simp) rfl _ rfl) rfl rfl, wd_get (hp ⟨1, .data⟩ (by simp) rfl _ rfl) rfl rfl])
        · exact fun ac w' hb hp => wd_run rfl rfl (by simp [execOp, go_sem, Act.eval, wd_get (hp ⟨2, .data⟩ (by simp) rfl _ rfl) rfl rfl])
        · intro ac w' hb hp
          have gg := wd_get (hp ⟨3, .guard⟩ (by simp) rfl _ rfl) rfl rfl
          have b5 : ac.tmps[5]?.getD undef = .pointer (some ⟨nb5, 0, none⟩) := hb.at 5 (by kernel_rfl)
          have q0 := (HN8.out.below hb.ext).cell 0
          have q1 := (HN8.out.below hb.ext).cell 1
          exact wd_run rfl (by simp [Region.wanted, yielded, bool_at gg]) (by simp [execOp, go_sem, Act.eval, b5, q0, q1])
        · intro ac w' hb hp
          have gg := wd_get (hp ⟨3, .guard⟩ (by simp) rfl _ rfl) rfl rfl
          refine step_call (f := 20) (args := #[.agg #[.int .i64 nj, .slice A5 jl.length c5]]) (by simp [Region.wanted, yielded, bool_at gg]) (by simp [go_sem, wd_get (hp ⟨4, .data⟩ (by simp) rfl _ rfl) rfl rfl]) ?_
          exact (theirs_any nj A5 jl.length c5 w').mono fun e w9 h9 => ⟨_, h9.1, h9.2, wd_mk rfl fun _ => rfl⟩
        · intro ac w' hb hp
          have gg := wd_get (hp ⟨3, .guard⟩ (by simp) rfl _ rfl) rfl rfl
          have b7 : ac.tmps[7]?.getD undef = .pointer (some ⟨q6, 0, none⟩) := hb.at 7 (by kernel_rfl)
          have q0 := (HM8.out.below hb.ext).cell 0
          have q1 := (HM8.out.below hb.ext).cell 1
          exact wd_run rfl (by simp [Region.wanted, yielded, bool_at gg]) (by simp [execOp, go_sem, Act.eval, b7, q0, q1])
        · intro ac w' hb hp
          have gg := wd_get (hp ⟨3, .guard⟩ (by simp) rfl _ rfl) rfl rfl
          refine step_call (f := 19) (args := #[.agg #[.int .i64 nj, .slice A5 jl.length c5], .agg #[.int .i64 nj, .slice A6 jl.length c6]]) (by simp [Region.wanted, yielded, bool_at gg]) (by simp [go_sem, wd_get (hp ⟨5, .data⟩ (by simp) rfl _ rfl) rfl rfl, wd_get (hp ⟨6, .data⟩ (by simp) rfl _ rfl) rfl rfl]) ?_
          exact (HSM1.out w' hb.ext).mono fun e w9 h9 => ⟨_, h9.1, h9.2, wd_mk rfl fun _ => rfl⟩
        · exact fun ac w' hb hp => wd_run rfl rfl (by simp [execOp, go_sem, Act.eval, wd_get (hp ⟨3, .data⟩ (by simp) rfl _ rfl) rfl rfl, wd_get (hp ⟨7, .data⟩ (by simp) rfl _ rfl) rfl rfl])
        · exact fun ac w' hb hp => wd_run rfl rfl (by simp [execOp, go_sem, Act.eval, wd_get (hp ⟨8, .data⟩ (by simp) rfl _ rfl) rfl rfl])
        · intro ac w' hb hp
          have gg := wd_get (hp ⟨9, .guard⟩ (by simp) rfl _ rfl) rfl rfl
          have b10 : ac.tmps[10]?.getD undef = .int .i64 ew := hb.at 10 (by kernel_rfl)
          exact wd_run rfl (by simp [Region.wanted, yielded, bool_at gg]) (by simp [execOp, go_sem, Act.eval, b10])
        · intro ac w' hb hp
          have gg := wd_get (hp ⟨9, .guard⟩ (by simp) rfl _ rfl) rfl rfl
          have b12 : ac.tmps[12]?.getD undef = .int .i64 ew := hb.at 12 (by kernel_rfl)
          exact wd_run rfl (by simp [Region.wanted, yielded, bool_at gg]) (by simp [execOp, go_sem, Act.eval, b12])
        · intro ac w' hb hp
          have gg := wd_get (hp ⟨9, .guard⟩ (by simp) rfl _ rfl) rfl rfl
          exact wd_run rfl (by simp [Region.wanted, yielded, bool_at gg]) (by simp [execOp, go_sem, Act.eval, wd_get (hp ⟨10, .data⟩ (by simp) rfl _ rfl) rfl rfl, wd_get (hp ⟨11, .data⟩ (by simp) rfl _ rfl) rfl rfl])
        · exact fun ac w' hb hp => wd_run rfl rfl (by simp [execOp, go_sem, Act.eval, wd_get (hp ⟨9, .data⟩ (by simp) rfl _ rfl) rfl rfl, wd_get (hp ⟨12, .data⟩ (by simp) rfl _ rfl) rfl rfl])
        · exact fun ac w' hb hp => wd_run rfl rfl (by simp [execOp, go_sem, Act.eval, wd_get (hp ⟨13, .data⟩ (by simp) rfl _ rfl) rfl rfl])
        · intro ac w' hb hp
          have gg := wd_get (hp ⟨14, .guard⟩ (by simp) rfl _ rfl) rfl rfl
          have b9 : ac.tmps[9]?.getD undef = .pointer (some ⟨nb7, 0, none⟩) := hb.at 9 (by kernel_rfl)
          have q0 := (HO8.out.below hb.ext).cell 0
          have q1 := (HO8.out.below hb.ext).cell 1
          exact wd_run rfl (by simp [Region.wanted, yielded, bool_at gg]) (by simp [execOp, go_sem, Act.eval, b9, q0, q1])
        · intro ac w' hb hp
          have gg := wd_get (hp ⟨14, .guard⟩ (by simp) rfl _ rfl) rfl rfl
          refine step_call (f := 20) (args := #[.agg #[.int .i64 nw, .slice A7 wl.length c7]]) (by simp [Region.wanted, yielded, bool_at gg]) (by simp [go_sem, wd_get (hp ⟨15, .data⟩ (by simp) rfl _ rfl) rfl rfl]) ?_
          exact (theirs_any nw A7 wl.length c7 w').mono fun e w9 h9 => ⟨_, h9.1, h9.2, wd_mk rfl fun _ => rfl⟩
        · intro ac w' hb hp
          have gg := wd_get (hp ⟨14, .guard⟩ (by simp) rfl _ rfl) rfl rfl
          have b11 : ac.tmps[11]?.getD undef = .pointer (some ⟨w8.heap.size, 0, none⟩) := hb.at 11 (by kernel_rfl)
          have q0 := (HP8.out.below hb.ext).cell 0
          have q1 := (HP8.out.below hb.ext).cell 1
          exact wd_run rfl (by simp [Region.wanted, yielded, bool_at gg]) (by simp [execOp, go_sem, Act.eval, b11, q0, q1])
        · intro ac w' hb hp
          have gg := wd_get (hp ⟨14, .guard⟩ (by simp) rfl _ rfl) rfl rfl
          refine step_call (f := 19) (args := #[.agg #[.int .i64 nw, .slice A7 wl.length c7], .agg #[.int .i64 nw, .slice A8 wl.length c8]]) (by simp [Region.wanted, yielded, bool_at gg]) (by simp [go_sem, wd_get (hp ⟨16, .data⟩ (by simp) rfl _ rfl) rfl rfl, wd_get (hp ⟨17, .data⟩ (by simp) rfl _ rfl) rfl rfl]) ?_
          exact (HSM2.out w' hb.ext).mono fun e w9 h9 => ⟨_, h9.1, h9.2, wd_mk rfl fun _ => rfl⟩
        · exact fun ac w' hb hp => wd_run rfl rfl (by simp [execOp, go_sem, Act.eval, wd_get (hp ⟨14, .data⟩ (by simp) rfl _ rfl) rfl rfl, wd_get (hp ⟨18, .data⟩ (by simp) rfl _ rfl) rfl rfl])
        · exact fun ac w' hb hp => wd_run rfl rfl (by simp [execOp, go_sem, Act.eval, wd_get (hp ⟨19, .data⟩ (by simp) rfl _ rfl) rfl rfl])
        · intro ac w' hb hp
          have gg := wd_get (hp ⟨20, .guard⟩ (by simp) rfl _ rfl) rfl rfl
          have b2 : ac.tmps[2]?.getD undef = .pointer (some ⟨w.heap.size, 0, none⟩) := hb.at 2 (by kernel_rfl)
          have q0 := (HXA8.out.below hb.ext).cell 0
          have q1 := (HXA8.out.below hb.ext).cell 1
          exact wd_run rfl (by simp [Region.wanted, yielded, bool_at gg]) (by simp [execOp, go_sem, Act.eval, b2, q0, q1])
        · intro ac w' hb hp
          have gg := wd_get (hp ⟨20, .guard⟩ (by simp) rfl _ rfl) rfl rfl
          refine step_call (f := 15) (args := #[.agg #[.int .i64 N1, .slice A1 a.length c1]]) (by simp [Region.wanted, yielded, bool_at gg]) (by simp [go_sem, wd_get (hp ⟨21, .data⟩ (by simp) rfl _ rfl) rfl rfl]) ?_
          exact (own_any N1 A1 a.length c1 w').mono fun e w9 h9 => ⟨_, h9.1, h9.2, wd_mk rfl fun _ => rfl⟩
        · intro ac w' hb hp
          have gg := wd_get (hp ⟨20, .guard⟩ (by simp) rfl _ rfl) rfl rfl
          have b3 : ac.tmps[3]?.getD undef = .pointer (some ⟨w.heap.size + 1, 0, none⟩) := hb.at 3 (by kernel_rfl)
          have q0 := (HXB8.out.below hb.ext).cell 0
          have q1 := (HXB8.out.below hb.ext).cell 1
          exact wd_run rfl (by simp [Region.wanted, yielded, bool_at gg]) (by simp [execOp, go_sem, Act.eval, b3, q0, q1])
        · intro ac w' hb hp
          have gg := wd_get (hp ⟨20, .guard⟩ (by simp) rfl _ rfl) rfl rfl
          refine step_call (f := 15) (args := #[.agg #[.int .i64 N2, .slice A2 b.length c2]]) (by simp [Region.wanted, yielded, bool_at gg]) (by simp [go_sem, wd_get (hp ⟨23, .data⟩ (by simp) rfl _ rfl) rfl rfl]) ?_
          exact (own_any N2 A2 b.length c2 w').mono fun e w9 h9 => ⟨_, h9.1, h9.2, wd_mk rfl fun _ => rfl⟩
        · intro ac w' hb hp
          have gg := wd_get (hp ⟨20, .guard⟩ (by simp) rfl _ rfl) rfl rfl
          refine step_call (f := 35) (args := #[.agg #[.int .i64 N1, .slice A1 a.length c1], .agg #[.int .i64 N2, .slice A2 b.length c2]]) (by simp [Region.wanted, yielded, bool_at gg]) (by simp [go_sem, wd_get (hp ⟨22, .data⟩ (by simp) rfl _ rfl) rfl rfl, wd_get (hp ⟨24, .data⟩ (by simp) rfl _ rfl) rfl rfl]) ?_
          exact (HIA.out w' hb.ext).mono fun e w9 h9 => ⟨_, h9.1, h9.2, wd_mk rfl fun _ => rfl⟩
        · intro ac w' hb hp
          have gg := wd_get (hp ⟨20, .guard⟩ (by simp) rfl _ rfl) rfl rfl
          have b2 : ac.tmps[2]?.getD undef = .pointer (some ⟨w.heap.size, 0, none⟩) := hb.at 2 (by kernel_rfl)
          have q0 := (HXA8.out.below hb.ext).cell 0
          have q1 := (HXA8.out.below hb.ext).cell 1
          exact wd_run rfl (by simp [Region.wanted, yielded, bool_at gg]) (by simp [execOp, go_sem, Act.eval, b2, q0, q1])
        · intro ac w' hb hp
          have gg := wd_get (hp ⟨20, .guard⟩ (by simp) rfl _ rfl) rfl rfl
          have b3 : ac.tmps[3]?.getD undef = .pointer (some ⟨w.heap.size + 1, 0, none⟩) := hb.at 3 (by kernel_rfl)
          have q0 := (HXB8.out.below hb.ext).cell 0
          have q1 := (HXB8.out.below hb.ext).cell 1
          exact wd_run rfl (by simp [Region.wanted, yielded, bool_at gg]) (by simp [execOp, go_sem, Act.eval, b3, q0, q1])
        · intro ac w' hb hp
          have gg := wd_get (hp ⟨20, .guard⟩ (by simp) rfl _ rfl) rfl rfl
          refine step_call (f := 36) (args := #[.agg #[.int .i64 N1, .slice A1 a.length c1], .agg #[.int .i64 N2, .slice A2 b.length c2]]) (by simp [Region.wanted, yielded, bool_at gg]) (by simp [go_sem, wd_get (hp ⟨26, .data⟩ (by simp) rfl _ rfl) rfl rfl, wd_get (hp ⟨27, .data⟩ (by simp) rfl _ rfl) rfl rfl]) ?_
          exact (HIB.out w' hb.ext).mono fun e w9 h9 => ⟨_, h9.1, h9.2, wd_mk rfl fun _ => rfl⟩
        · intro ac w' hb hp
          have gg := wd_get (hp ⟨20, .guard⟩ (by simp) rfl _ rfl) rfl rfl
          exact wd_run rfl (by simp [Region.wanted, yielded, bool_at gg]) (by simp [execOp, go_sem, Act.eval, wd_get (hp ⟨25, .data⟩ (by simp) rfl _ rfl) rfl rfl, wd_get (hp ⟨28, .data⟩ (by simp) rfl _ rfl) rfl rfl])
        · exact fun ac w' hb hp => wd_run rfl rfl (by simp [execOp, go_sem, Act.eval, wd_get (hp ⟨20, .data⟩ (by simp) rfl _ rfl) rfl rfl, wd_get (hp ⟨29, .data⟩ (by simp) rfl _ rfl) rfl rfl])
        · exact fun ac w' hb hp => wd_run rfl rfl (by simp [execOp, go_sem, Act.eval, wd_get (hp ⟨30, .data⟩ (by simp) rfl _ rfl) rfl rfl])
        · intro ac w' hb hp
          have gg := wd_get (hp ⟨31, .guard⟩ (by simp) rfl _ rfl) rfl rfl
          have b5 : ac.tmps[5]?.getD undef = .pointer (some ⟨nb5, 0, none⟩) := hb.at 5 (by kernel_rfl)
          have q0 := (HN8.out.below hb.ext).cell 0
          have q1 := (HN8.out.below hb.ext).cell 1
          exact wd_run rfl (by simp [Region.wanted, yielded, bool_at gg]) (by simp [execOp, go_sem, Act.eval, b5, q0, q1])
        · intro ac w' hb hp
          have gg := wd_get (hp ⟨31, .guard⟩ (by simp) rfl _ rfl) rfl rfl
          refine step_call (f := 21) (args := #[.agg #[.int .i64 nj, .slice A5 jl.length c5]]) (by simp [Region.wanted, yielded, bool_at gg]) (by simp [go_sem, wd_get (hp ⟨32, .data⟩ (by simp) rfl _ rfl) rfl rfl]) ?_
          exact (HVA.out w' hb.ext).mono fun e w9 h9 => ⟨_, h9.1, h9.2, wd_mk rfl fun _ => rfl⟩
        · intro ac w' hb hp
          have gg := wd_get (hp ⟨31, .guard⟩ (by simp) rfl _ rfl) rfl rfl
          have b6 : ac.tmps[6]?.getD undef = .int .i64 ej := hb.at 6 (by kernel_rfl)
          exact wd_run rfl (by simp [Region.wanted, yielded, bool_at gg]) (by simp [execOp, go_sem, Act.eval, b6])
        · intro ac w' hb hp
          have gg := wd_get (hp ⟨31, .guard⟩ (by simp) rfl _ rfl) rfl rfl
          exact wd_run rfl (by simp [Region.wanted, yielded, bool_at gg]) (by simp [execOp, go_sem, Act.eval, wd_get (hp ⟨34, .data⟩ (by simp) rfl _ rfl) rfl rfl, HE.out])
        · intro ac w' hb hp
          have gg := wd_get (hp ⟨31, .guard⟩ (by simp) rfl _ rfl) rfl rfl
          exact wd_run rfl (by simp [Region.wanted, yielded, bool_at gg]) (by simp [execOp, go_sem, Act.eval, wd_get (hp ⟨33, .data⟩ (by simp) rfl _ rfl) rfl rfl, wd_get (hp ⟨35, .data⟩ (by simp) rfl _ rfl) rfl rfl])
        · exact fun ac w' hb hp => wd_run rfl rfl (by simp [execOp, go_sem, Act.eval, wd_get (hp ⟨31, .data⟩ (by simp) rfl _ rfl) rfl rfl, wd_get (hp ⟨36, .data⟩ (by simp) rfl _ rfl) rfl rfl])
        · exact fun ac w' hb hp => wd_run rfl rfl (by simp [execOp, go_sem, Act.eval, wd_get (hp ⟨37, .data⟩ (by simp) rfl _ rfl) rfl rfl])
      · intro vz w9 hext hall
        have HEXT := Lib.hid hext
        have e38 : vz 38 = .bool true := hall 38 (by decide) rfl
        clear hext hall
        simp only [putAll, Act.put, List.setIfInBounds_toArray, List.set_cons_zero, List.set_cons_succ, Nat.zero_add, Nat.reduceAdd, e38]
        clear e38
        have HB9 := Lib.hid (HB8.out.trans (HEXT.out.mono HB8.out.size))
        go_wp2_with fail
        go_ret
        exact Tells.of HB9.out
end Go.Proofs.Ytepeeeiekeppjaa
