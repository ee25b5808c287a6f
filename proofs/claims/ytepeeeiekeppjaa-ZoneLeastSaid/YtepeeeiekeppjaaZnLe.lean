/- Layer 13: ZoneLeast, the walk (tools/gen_zl.py). -/
import Derived.Test.YtepeeeiekeppjaaZnSt
import Derived.Test.YtepeeeiekeppjaaZnPj
namespace Go.Proofs.Ytepeeeiekeppjaa
open Go.RowKit

theorem joinZ_shape (N : Int) (a : List Int) (M : Int) (b : List Int) : ∃ n l e, joinZ N a M b = ((n, l), .int .i64 e) := by
  unfold joinZ
  split
  · split <;> exact ⟨_, _, _, rfl⟩
  · exact ⟨_, _, _, rfl⟩
theorem widZ_shape (N : Int) (a : List Int) (M : Int) (b : List Int) : ∃ n l e, widZ N a M b = ((n, l), .int .i64 e) := by
  unfold widZ
  split
  · split <;> exact ⟨_, _, _, rfl⟩
  · exact ⟨_, _, _, rfl⟩
set_option maxRecDepth 20000 in
set_option maxHeartbeats 2000000 in
theorem zoneleast_walk (N1 : Int) (A1 : Option Addr) (c1 : Nat) (a : List Int) (N2 : Int) (A2 : Option Addr) (c2 : Nat) (b : List Int) (N3 : Int) (A3 : Option Addr) (c3 : Nat) (cc : List Int) (w : World)
    (h1 : Sl iv w (.slice A1 a.length c1) a) (hl1 : a.length ≤ 9223372036854775807) (h2 : Sl iv w (.slice A2 b.length c2) b) (hl2 : b.length ≤ 9223372036854775807) (h3 : Sl iv w (.slice A3 cc.length c3) cc) (hl3 : cc.length ≤ 9223372036854775807) :
    Calls Try.prog 9 #[.agg #[.int .i64 N1, .slice A1 a.length c1], .agg #[.int .i64 N2, .slice A2 b.length c2], .agg #[.int .i64 N3, .slice A3 cc.length c3]] w (Tells w (.bool true)) := by
  have H1 := Lib.hid h1
  have H2 := Lib.hid h2
  have H3 := Lib.hid h3
  have HL1 := Lib.hid hl1
  have HL2 := Lib.hid hl2
  have HL3 := Lib.hid hl3
  clear h1 h2 h3 hl1 hl2 hl3
  go_enter Try.func9, Try.ntmps9
  go_wp2_with fail
  refine (awake_any _).mono ?_; rintro e w1 ⟨rfl, hb1⟩
  obtain ⟨HX1, HX2, HX3, HB1⟩ := three_boxes rfl rfl rfl hb1
  obtain ⟨x0, x1⟩ := HX1.out.k2
  clear hb1
  go_wp2_with fail
  refine (few_any N1 A1 c1 a _ HL1.out).mono ?_; rintro e w2 ⟨rfl, hb2⟩
  have HB2 := Lib.hid (HB1.out.trans (hb2.mono HB1.out.size))
  have HX12 := Lib.hid (HX1.out.below hb2)
  have HX22 := Lib.hid (HX2.out.below hb2)
  have HX32 := Lib.hid (HX3.out.below hb2)
  clear hb2 x0 x1 HB1 HX1 HX2 HX3
  cases hfa : fewB N1 a with
  | false =>
    clear hfa HX12 HX22 HX32
    go_wp2_with fail
    refine (awake_any _).mono ?_; rintro e w3 ⟨rfl, hb3⟩
    have HB3 := Lib.hid (HB2.out.trans (hb3.mono HB2.out.size))
    clear hb3 HB2
    go_wp2_with fail
    go_ret
    exact tells_true HB3.out
  | true =>
    clear hfa
    obtain ⟨x0, x1⟩ := HX22.out.k2
    go_wp2_with fail
    refine (few_any N2 A2 c2 b _ HL2.out).mono ?_; rintro e w3 ⟨rfl, hb3⟩
    have HB3 := Lib.hid (HB2.out.trans (hb3.mono HB2.out.size))
    have HX13 := Lib.hid (HX12.out.below hb3)
    have HX23 := Lib.hid (HX22.out.below hb3)
    have HX33 := Lib.hid (HX32.out.below hb3)
    clear hb3 x0 x1 HB2 HX12 HX22 HX32
    cases hfb : fewB N2 b with
    | false =>
      clear hfb HX13 HX23 HX33
      go_wp2_with fail
      refine (awake_any _).mono ?_; rintro e w4 ⟨rfl, hb4⟩
      have HB4 := Lib.hid (HB3.out.trans (hb4.mono HB3.out.size))
      clear hb4 HB3
      go_wp2_with fail
      go_ret
      exact tells_true HB4.out
    | true =>
    clear hfb
    obtain ⟨x0, x1⟩ := HX33.out.k2
    go_wp2_with fail
    refine (few_any N3 A3 c3 cc _ HL3.out).mono ?_; rintro e w4 ⟨rfl, hb4⟩
    have HB4 := Lib.hid (HB3.out.trans (hb4.mono HB3.out.size))
    have HXA := Lib.hid (HX13.out.below hb4)
    have HXB := Lib.hid (HX23.out.below hb4)
    have HXC := Lib.hid (HX33.out.below hb4)
    have HSA := Lib.hid (H1.out.below HB4.out)
    have HSB := Lib.hid (H2.out.below HB4.out)
    have HSC := Lib.hid (H3.out.below HB4.out)
    clear hb4 x0 x1 HB3 HX13 HX23 HX33 H1 H2 H3
    cases hfc : fewB N3 cc with
    | false =>
      clear hfc HXA HXB HXC HSA HSB HSC
      go_wp2_with fail
      refine (awake_any _).mono ?_; rintro e w5 ⟨rfl, hb5⟩
      have HB5 := Lib.hid (HB4.out.trans (hb5.mono HB4.out.size))
      clear hb5 HB4
      go_wp2_with fail
      go_ret
      exact tells_true HB5.out
    | true =>
    clear hfc
    obtain ⟨nj, jl, ej, hj⟩ := joinZ_shape N1 a N2 b
    obtain ⟨nw, wl, ew, hw⟩ := widZ_shape N1 a N2 b
    have HJ := Lib.hid hj
    have HW := Lib.hid hw
    clear hj hw
    have HJO := Lib.hid (show ∀ w6, Below w4.heap.size w4 w6 → Calls Try.prog 31 #[.agg #[.int .i64 N1, .slice A1 a.length c1], .agg #[.int .i64 N2, .slice A2 b.length c2]] w6 (ZP w6 ((nj, jl), .int .i64 ej)) from
      fun w6 h6 => by rw [← HJ.out]; exact join_any N1 N2 _ _ a b w6 (HSA.out.below h6) HL1.out (HSB.out.below h6) HL2.out)
    go_wp2_with fail
    refine region_invE (n := 114) (LwI (w4) 29 (fun zz => match zz with | 0 => .agg #[.int .i64 N1, .slice A1 a.length c1] | 1 => .agg #[.int .i64 N1, .slice A1 a.length c1] | 2 => .agg #[.int .i64 N2, .slice A2 b.length c2] | 3 => .agg #[.int .i64 N2, .slice A2 b.length c2] | _ => undef) 4 (((nj, jl), .int .i64 ej))) (by kernel_rfl) (by kernel_rfl) rfl ?_ (allOps_spec ?_) ?_
    · intro vs
      exact LwI.start
    · refine ⟨?_, ?_, ?_, ?_, ?_, ?_, ?_, ?_, ?_, ?_, ?_, trivial⟩
      · intro L vs ac w6 hB hL hd hI
        have b3 : ac.tmps[3]?.getD undef = .pointer (some ⟨w.heap.size, 0, none⟩) := hB.at 3 (by kernel_rfl)
        have hlk : L 4 = false := (hB.wait 1 4 (hB.wait 0 1 hL (by kernel_rfl)) (by kernel_rfl))
        have hx := hI.bel
        have q0 := (HXA.out.below hx).cell 0
        have q1 := (HXA.out.below hx).cell 1
        exact stepI_run (v := .agg #[.int .i64 N1, .slice A1 a.length c1]) rfl (by simp [execOp, go_sem, Act.eval, b3, q0, q1]) (hI.plain 0 (by decide) hlk (Below.refl _ _))
      · intro L vs ac w6 hB hL hd hI
        have b31 : ac.tmps[31]?.getD undef = .agg #[.int .i64 N1, .slice A1 a.length c1] := (hB.val 0 (hd ⟨0, .data⟩ (by simp) rfl) 31 rfl).trans (hI.v 0 (by decide) (hd ⟨0, .data⟩ (by simp) rfl))
        have hlk : L 4 = false := (hB.wait 1 4 hL (by kernel_rfl))
        have hx := hI.bel
        refine stepI_call (f := 15) (args := #[.agg #[.int .i64 N1, .slice A1 a.length c1]]) rfl (by simp [go_sem, b31]) ?_
        refine (own_any N1 A1 a.length c1 w6).mono ?_
        rintro e w9 ⟨rfl, h9⟩
        exact ⟨_, rfl, hI.plain 1 (by decide) hlk h9⟩
      · intro L vs ac w6 hB hL hd hI
        have b4 : ac.tmps[4]?.getD undef = .pointer (some ⟨w.heap.size + 1, 0, none⟩) := hB.at 4 (by kernel_rfl)
        have hlk : L 4 = false := (hB.wait 3 4 (hB.wait 2 3 hL (by kernel_rfl)) (by kernel_rfl))
        have hx := hI.bel
        have q0 := (HXB.out.below hx).cell 0
        have q1 := (HXB.out.below hx).cell 1
        exact stepI_run (v := .agg #[.int .i64 N2, .slice A2 b.length c2]) rfl (by simp [execOp, go_sem, Act.eval, b4, q0, q1]) (hI.plain 2 (by decide) hlk (Below.refl _ _))
      · intro L vs ac w6 hB hL hd hI
        have b33 : ac.tmps[33]?.getD undef = .agg #[.int .i64 N2, .slice A2 b.length c2] := (hB.val 2 (hd ⟨2, .data⟩ (by simp) rfl) 33 rfl).trans (hI.v 2 (by decide) (hd ⟨2, .data⟩ (by simp) rfl))
        have hlk : L 4 = false := (hB.wait 3 4 hL (by kernel_rfl))
        have hx := hI.bel
        refine stepI_call (f := 15) (args := #[.agg #[.int .i64 N2, .slice A2 b.length c2]]) rfl (by simp [go_sem, b33]) ?_
        refine (own_any N2 A2 b.length c2 w6).mono ?_
        rintro e w9 ⟨rfl, h9⟩
        exact ⟨_, rfl, hI.plain 3 (by decide) hlk h9⟩
      · intro L vs ac w6 hB hL hd hI
        have b32 : ac.tmps[32]?.getD undef = .agg #[.int .i64 N1, .slice A1 a.length c1] := (hB.val 1 (hd ⟨1, .data⟩ (by simp) rfl) 32 rfl).trans (hI.v 1 (by decide) (hd ⟨1, .data⟩ (by simp) rfl))
        have b34 : ac.tmps[34]?.getD undef = .agg #[.int .i64 N2, .slice A2 b.length c2] := (hB.val 3 (hd ⟨3, .data⟩ (by simp) rfl) 34 rfl).trans (hI.v 3 (by decide) (hd ⟨3, .data⟩ (by simp) rfl))
        have hl1 : L 5 = false := hB.wait 4 5 hL (by kernel_rfl)
        have hl2 : L 6 = false := hB.wait 5 6 hl1 (by kernel_rfl)
        have hl5 : L 9 = false := hB.wait 6 9 hl2 (by kernel_rfl)
        have hx := hI.bel
        refine stepI_call (f := 31) (args := #[.agg #[.int .i64 N1, .slice A1 a.length c1], .agg #[.int .i64 N2, .slice A2 b.length c2]]) rfl (by simp [go_sem, b32, b34]) ?_
        exact (HJO.out w6 hx).mono fun e w9 h9 => hI.call hl1 hl2 hl5 h9
      · intro L vs ac w6 hB hL hd hI
        have hk : L 4 = true := hd ⟨4, .data⟩ (by simp) rfl
        have b : ac.tmps[35]?.getD undef = vs 4 := hB.val 4 hk 35 rfl
        exact stepI_run (v := vs 4) rfl (by simp [execOp, go_sem, Act.eval, b]) (hI.move hk)
      · intro L vs ac w6 hB hL hd hI
        have hm := hI.m (hd ⟨5, .data⟩ (by simp) rfl)
        obtain ⟨A9, c9, ek, -⟩ := hI.c hm.1
        have b : ac.tmps[30]?.getD undef = _ := (hB.val 5 (hd ⟨5, .data⟩ (by simp) rfl) 30 rfl).trans (hm.2.trans ek)
        exact stepI_run (v := fstV (vs 4)) rfl (by simp [execOp, go_sem, Act.eval, b, ek, fstV]) (hI.ext0 hm.1)
      · intro L vs ac w6 hB hL hd hI
        have hm := hI.m (hd ⟨5, .data⟩ (by simp) rfl)
        obtain ⟨A9, c9, ek, -⟩ := hI.c hm.1
        have b : ac.tmps[30]?.getD undef = _ := (hB.val 5 (hd ⟨5, .data⟩ (by simp) rfl) 30 rfl).trans (hm.2.trans ek)
        exact stepI_run (v := (((nj, jl), .int .i64 ej) : (Int × List Int) × Value).2) rfl (by simp [execOp, go_sem, Act.eval, b]) hI.ext1
      · intro L vs ac w6 hB hL hd hI
        have hl5 : L 9 = false := hB.wait 8 9 hL (by kernel_rfl)
        exact stepI_run (v := .pointer (some ⟨w6.heap.size, 0, none⟩)) (w' := w6.alloc (.cells #[.int .i64 0, .slice none 0 0] 29)) rfl (exec_alloc 29 rfl info_Zn) (hI.alc hl5)
      · intro L vs ac w6 hB hL hd hI
        have h4 : L 8 = true := hd ⟨8, .data⟩ (by simp) rfl
        have h2 : L 6 = true := hd ⟨6, .data⟩ (by simp) rfl
        obtain ⟨hk, e2⟩ := hI.e0 h2
        obtain ⟨A9, c9, ek, -⟩ := hI.c hk
        obtain ⟨nb, hv, -, hx, -⟩ := hI.al h4
        rw [hL, if_neg Bool.false_ne_true] at hx
        have bp : ac.tmps[7]?.getD undef = .pointer (some ⟨nb, 0, none⟩) := (hB.val 8 h4 7 rfl).trans hv
        have bq : ac.tmps[36]?.getD undef = .agg (cellsV (fstV (vs 4))) := (hB.val 6 h2 36 rfl).trans (e2.trans (by rw [ek]; rfl))
        exact stepI_store_row rfl 29 7 36 rfl nb _ bp bq _ hx (by rw [ek]; kernel_rfl) (by rw [ek]; rfl) (by rw [ek]; simp [cellsV, fstV, Value.oneCell']) (hI.sto h4 hk hv)
      · intro L vs ac w6 hB hL hd hI
        have h3 : L 7 = true := hd ⟨7, .data⟩ (by simp) rfl
        have b : ac.tmps[37]?.getD undef = (((nj, jl), .int .i64 ej) : (Int × List Int) × Value).2 := (hB.val 7 h3 37 rfl).trans (hI.e1 h3)
        exact stepI_run (v := (((nj, jl), .int .i64 ej) : (Int × List Int) × Value).2) rfl (by simp [execOp, go_sem, Act.eval, b]) hI.asg
    · intro L vs w5 hall hI
      obtain ⟨nb5, A5, c5, e1, e2, hnb5, hx5, ho5, hne5, hb5⟩ := hI.fin fun i hi => hall i hi
      clear hI hall
      simp only [putAll, Act.put, List.setIfInBounds_toArray, List.set_cons_zero, List.set_cons_succ, Nat.zero_add, Nat.reduceAdd, e1, e2]
      clear e1 e2
      dsimp only at hx5 ho5 hne5
      have HB5 := Lib.hid (HB4.out.trans (hb5.mono HB4.out.size))
      have HXA5 := Lib.hid (HXA.out.below hb5)
      have HXB5 := Lib.hid (HXB.out.below hb5)
      have HXC5 := Lib.hid (HXC.out.below hb5)
      have HSA5 := Lib.hid (HSA.out.below hb5)
      have HSB5 := Lib.hid (HSB.out.below hb5)
      have HSC5 := Lib.hid (HSC.out.below hb5)
      have HN5 := Lib.hid hx5
      have HSJ5 := Lib.hid (Own.sl ho5)
      clear hx5 ho5 hne5 hb5 hnb5 HB4 HXA HXB HXC HSA HSB HSC HJO
      have HWO := Lib.hid (show ∀ w6, Below w5.heap.size w5 w6 → Calls Try.prog 33 #[.agg #[.int .i64 N1, .slice A1 a.length c1], .agg #[.int .i64 N2, .slice A2 b.length c2]] w6 (ZP w6 ((nw, wl), .int .i64 ew)) from
        fun w6 h6 => by rw [← HW.out]; exact widen_any N1 N2 _ _ a b w6 (HSA5.out.below h6) HL1.out (HSB5.out.below h6) HL2.out)
      go_wp2_with fail
      refine region_invE (n := 114) (LwI (w5) 29 (fun zz => match zz with | 0 => .agg #[.int .i64 N1, .slice A1 a.length c1] | 1 => .agg #[.int .i64 N1, .slice A1 a.length c1] | 2 => .agg #[.int .i64 N2, .slice A2 b.length c2] | 3 => .agg #[.int .i64 N2, .slice A2 b.length c2] | _ => undef) 4 (((nw, wl), .int .i64 ew))) (by kernel_rfl) (by kernel_rfl) rfl ?_ (allOps_spec ?_) ?_
      · intro vs
        exact LwI.start
      · refine ⟨?_, ?_, ?_, ?_, ?_, ?_, ?_, ?_, ?_, ?_, ?_, trivial⟩
        · intro L vs ac w6 hB hL hd hI
          have b3 : ac.tmps[3]?.getD undef = .pointer (some ⟨w.heap.size, 0, none⟩) := hB.at 3 (by kernel_rfl)
          have hlk : L 4 = false := (hB.wait 1 4 (hB.wait 0 1 hL (by kernel_rfl)) (by kernel_rfl))
          have hx := hI.bel
          have q0 := (HXA5.out.below hx).cell 0
          have q1 := (HXA5.out.below hx).cell 1
          exact stepI_run (v := .agg #[.int .i64 N1, .slice A1 a.length c1]) rfl (by simp [execOp, go_sem, Act.eval, b3, q0, q1]) (hI.plain 0 (by decide) hlk (Below.refl _ _))
        · intro L vs ac w6 hB hL hd hI
          have b39 : ac.tmps[39]?.getD undef = .agg #[.int .i64 N1, .slice A1 a.length c1] := (hB.val 0 (hd ⟨0, .data⟩ (by simp) rfl) 39 rfl).trans (hI.v 0 (by decide) (hd ⟨0, .data⟩ (by simp) rfl))
          have hlk : L 4 = false := (hB.wait 1 4 hL (by kernel_rfl))
          have hx := hI.bel
          refine stepI_call (f := 15) (args := #[.agg #[.int .i64 N1, .slice A1 a.length c1]]) rfl (by simp [go_sem, b39]) ?_
          refine (own_any N1 A1 a.length c1 w6).mono ?_
          rintro e w9 ⟨rfl, h9⟩
          exact ⟨_, rfl, hI.plain 1 (by decide) hlk h9⟩
        · intro L vs ac w6 hB hL hd hI
          have b4 : ac.tmps[4]?.getD undef = .pointer (some ⟨w.heap.size + 1, 0, none⟩) := hB.at 4 (by kernel_rfl)
          have hlk : L 4 = false := (hB.wait 3 4 (hB.wait 2 3 hL (by kernel_rfl)) (by kernel_rfl))
          have hx := hI.bel
          have q0 := (HXB5.out.below hx).cell 0
          have q1 := (HXB5.out.below hx).cell 1
          exact stepI_run (v := .agg #[.int .i64 N2, .slice A2 b.length c2]) rfl (by simp [execOp, go_sem, Act.eval, b4, q0, q1]) (hI.plain 2 (by decide) hlk (Below.refl _ _))
        · intro L vs ac w6 hB hL hd hI
          have b41 : ac.tmps[41]?.getD undef = .agg #[.int .i64 N2, .slice A2 b.length c2] := (hB.val 2 (hd ⟨2, .data⟩ (by simp) rfl) 41 rfl).trans (hI.v 2 (by decide) (hd ⟨2, .data⟩ (by simp) rfl))
          have hlk : L 4 = false := (hB.wait 3 4 hL (by kernel_rfl))
          have hx := hI.bel
          refine stepI_call (f := 15) (args := #[.agg #[.int .i64 N2, .slice A2 b.length c2]]) rfl (by simp [go_sem, b41]) ?_
          refine (own_any N2 A2 b.length c2 w6).mono ?_
          rintro e w9 ⟨rfl, h9⟩
          exact ⟨_, rfl, hI.plain 3 (by decide) hlk h9⟩
        · intro L vs ac w6 hB hL hd hI
          have b40 : ac.tmps[40]?.getD undef = .agg #[.int .i64 N1, .slice A1 a.length c1] := (hB.val 1 (hd ⟨1, .data⟩ (by simp) rfl) 40 rfl).trans (hI.v 1 (by decide) (hd ⟨1, .data⟩ (by simp) rfl))
          have b42 : ac.tmps[42]?.getD undef = .agg #[.int .i64 N2, .slice A2 b.length c2] := (hB.val 3 (hd ⟨3, .data⟩ (by simp) rfl) 42 rfl).trans (hI.v 3 (by decide) (hd ⟨3, .data⟩ (by simp) rfl))
          have hl1 : L 5 = false := hB.wait 4 5 hL (by kernel_rfl)
          have hl2 : L 6 = false := hB.wait 5 6 hl1 (by kernel_rfl)
          have hl5 : L 9 = false := hB.wait 6 9 hl2 (by kernel_rfl)
          have hx := hI.bel
          refine stepI_call (f := 33) (args := #[.agg #[.int .i64 N1, .slice A1 a.length c1], .agg #[.int .i64 N2, .slice A2 b.length c2]]) rfl (by simp [go_sem, b40, b42]) ?_
          exact (HWO.out w6 hx).mono fun e w9 h9 => hI.call hl1 hl2 hl5 h9
        · intro L vs ac w6 hB hL hd hI
          have hk : L 4 = true := hd ⟨4, .data⟩ (by simp) rfl
          have b : ac.tmps[43]?.getD undef = vs 4 := hB.val 4 hk 43 rfl
          exact stepI_run (v := vs 4) rfl (by simp [execOp, go_sem, Act.eval, b]) (hI.move hk)
        · intro L vs ac w6 hB hL hd hI
          have hm := hI.m (hd ⟨5, .data⟩ (by simp) rfl)
          obtain ⟨A9, c9, ek, -⟩ := hI.c hm.1
          have b : ac.tmps[38]?.getD undef = _ := (hB.val 5 (hd ⟨5, .data⟩ (by simp) rfl) 38 rfl).trans (hm.2.trans ek)
          exact stepI_run (v := fstV (vs 4)) rfl (by simp [execOp, go_sem, Act.eval, b, ek, fstV]) (hI.ext0 hm.1)
        · intro L vs ac w6 hB hL hd hI
          have hm := hI.m (hd ⟨5, .data⟩ (by simp) rfl)
          obtain ⟨A9, c9, ek, -⟩ := hI.c hm.1
          have b : ac.tmps[38]?.getD undef = _ := (hB.val 5 (hd ⟨5, .data⟩ (by simp) rfl) 38 rfl).trans (hm.2.trans ek)
          exact stepI_run (v := (((nw, wl), .int .i64 ew) : (Int × List Int) × Value).2) rfl (by simp [execOp, go_sem, Act.eval, b]) hI.ext1
        · intro L vs ac w6 hB hL hd hI
          have hl5 : L 9 = false := hB.wait 8 9 hL (by kernel_rfl)
          exact stepI_run (v := .pointer (some ⟨w6.heap.size, 0, none⟩)) (w' := w6.alloc (.cells #[.int .i64 0, .slice none 0 0] 29)) rfl (exec_alloc 29 rfl info_Zn) (hI.alc hl5)
        · intro L vs ac w6 hB hL hd hI
          have h4 : L 8 = true := hd ⟨8, .data⟩ (by simp) rfl
          have h2 : L 6 = true := hd ⟨6, .data⟩ (by simp) rfl
          obtain ⟨hk, e2⟩ := hI.e0 h2
          obtain ⟨A9, c9, ek, -⟩ := hI.c hk
          obtain ⟨nb, hv, -, hx, -⟩ := hI.al h4
          rw [hL, if_neg Bool.false_ne_true] at hx
          have bp : ac.tmps[9]?.getD undef = .pointer (some ⟨nb, 0, none⟩) := (hB.val 8 h4 9 rfl).trans hv
          have bq : ac.tmps[44]?.getD undef = .agg (cellsV (fstV (vs 4))) := (hB.val 6 h2 44 rfl).trans (e2.trans (by rw [ek]; rfl))
          exact stepI_store_row rfl 29 9 44 rfl nb _ bp bq _ hx (by rw [ek]; kernel_rfl) (by rw [ek]; rfl) (by rw [ek]; simp [cellsV, fstV, Value.oneCell']) (hI.sto h4 hk hv)
        · intro L vs ac w6 hB hL hd hI
          have h3 : L 7 = true := hd ⟨7, .data⟩ (by simp) rfl
          have b : ac.tmps[45]?.getD undef = (((nw, wl), .int .i64 ew) : (Int × List Int) × Value).2 := (hB.val 7 h3 45 rfl).trans (hI.e1 h3)
          exact stepI_run (v := (((nw, wl), .int .i64 ew) : (Int × List Int) × Value).2) rfl (by simp [execOp, go_sem, Act.eval, b]) hI.asg
      · intro L vs w7 hall hI
        obtain ⟨nb7, A7, c7, e1, e2, hnb7, hx7, ho7, hne7, hb7⟩ := hI.fin fun i hi => hall i hi
        clear hI hall
        simp only [putAll, Act.put, List.setIfInBounds_toArray, List.set_cons_zero, List.set_cons_succ, Nat.zero_add, Nat.reduceAdd, e1, e2]
        clear e1 e2
        dsimp only at hx7 ho7 hne7
        have HB7 := Lib.hid (HB5.out.trans (hb7.mono HB5.out.size))
        have HXA7 := Lib.hid (HXA5.out.below hb7)
        have HXB7 := Lib.hid (HXB5.out.below hb7)
        have HXC7 := Lib.hid (HXC5.out.below hb7)
        have HSA7 := Lib.hid (HSA5.out.below hb7)
        have HSB7 := Lib.hid (HSB5.out.below hb7)
        have HSC7 := Lib.hid (HSC5.out.below hb7)
        have HNJ7 := Lib.hid (HN5.out.below hb7)
        have HNW7 := Lib.hid hx7
        have HSJ7 := Lib.hid (HSJ5.out.below hb7)
        have HSW7 := Lib.hid (Own.sl ho7)
        clear hx7 ho7 hne7 hb7 hnb7 HB5 HXA5 HXB5 HXC5 HSA5 HSB5 HSC5 HN5 HSJ5 HWO
        cases hali : aliB N1 a N2 b with
        | false =>
          obtain ⟨h1, h2⟩ := least_bad hali
          have h3 := HJ.out
          have h4 := HW.out
          rw [h1] at h3
          rw [h2] at h4
          simp only [Prod.mk.injEq, Value.int.injEq, true_and] at h3 h4
          obtain ⟨⟨rfl, rfl⟩, rfl⟩ := h3
          obtain ⟨⟨rfl, rfl⟩, rfl⟩ := h4
          clear HJ HW h1 h2 hali
          go_wp2_with fail
          go_ret
          exact tells_true HB7.out
        | true =>
          obtain ⟨m, rfl, rfl, hm, hz1, hz2⟩ := aliB_nat hali
          obtain ⟨jl, wl, hj, hw, hvj, hvw, s1, s2, s3, s4⟩ := least_facts hz1 hz2
          have h3 := HJ.out
          have h4 := HW.out
          rw [hj] at h3
          rw [hw] at h4
          simp only [Prod.mk.injEq, Value.int.injEq, true_and] at h3 h4
          obtain ⟨⟨rfl, rfl⟩, rfl⟩ := h3
          obtain ⟨⟨rfl, rfl⟩, rfl⟩ := h4
          have HVJ := Lib.hid hvj
          have HZ1 := Lib.hid hz1
          have HZ2 := Lib.hid hz2
          have hll : ∀ l : List Int, Zv (m + 1) l → l.length ≤ 9223372036854775807 := fun l hl => by rw [hl.len]; exact Nat.le_trans (Nat.mul_le_mul (by omega : m + 1 ≤ 25) (by omega : m + 1 ≤ 25)) (by decide)
          have HLJ := Lib.hid (hll _ hvj)
          have HLW := Lib.hid (hll _ hvw)
          have HS1 := Lib.hid ((subR_iff hz1 hvj).2 s1)
          have HS2 := Lib.hid ((subR_iff hz2 hvj).2 s2)
          have HS3 := Lib.hid ((subR_iff hvj hvw).2 s3)
          have HS4 := Lib.hid ((subR_iff hvj hvj).2 (subs_refl hvj))
          have HS5 := Lib.hid s4
          clear HJ HW hj hw hvj hvw hz1 hz2 s1 s2 s3 s4 hali hll
          have HU1 := Lib.hid (show ∀ w6, Below w7.heap.size w7 w6 → Calls Try.prog 35 #[.agg #[.int .i64 (m : Int), .slice A1 a.length c1], .agg #[.int .i64 (m : Int), .slice A5 jl.length c5]] w6 (Tells w6 (.bool true)) from
            fun w6 h6 => by rw [← HS1.out]; exact sub_any (m : Int) (m : Int) _ _ a jl w6 (HSA7.out.below h6) HL1.out (HSJ7.out.below h6) HLJ.out)
          have HU2 := Lib.hid (show ∀ w6, Below w7.heap.size w7 w6 → Calls Try.prog 35 #[.agg #[.int .i64 (m : Int), .slice A2 b.length c2], .agg #[.int .i64 (m : Int), .slice A5 jl.length c5]] w6 (Tells w6 (.bool true)) from
            fun w6 h6 => by rw [← HS2.out]; exact sub_any (m : Int) (m : Int) _ _ b jl w6 (HSB7.out.below h6) HL2.out (HSJ7.out.below h6) HLJ.out)
          have HU3 := Lib.hid (show ∀ w6, Below w7.heap.size w7 w6 → Calls Try.prog 35 #[.agg #[.int .i64 (m : Int), .slice A5 jl.length c5], .agg #[.int .i64 (m : Int), .slice A7 wl.length c7]] w6 (Tells w6 (.bool true)) from
            fun w6 h6 => by rw [← HS3.out]; exact sub_any (m : Int) (m : Int) _ _ jl wl w6 (HSJ7.out.below h6) HLJ.out (HSW7.out.below h6) HLW.out)
          have HU4 := Lib.hid (show ∀ w6, Below w7.heap.size w7 w6 → Calls Try.prog 35 #[.agg #[.int .i64 (m : Int), .slice A5 jl.length c5], .agg #[.int .i64 (m : Int), .slice A5 jl.length c5]] w6 (Tells w6 (.bool true)) from
            fun w6 h6 => by rw [← HS4.out]; exact sub_any (m : Int) (m : Int) _ _ jl jl w6 (HSJ7.out.below h6) HLJ.out (HSJ7.out.below h6) HLJ.out)
          go_wp2_with fail
          refine region_phi (n := 114) (Wd [(false, .agg #[.int .i64 (m : Int), .slice A1 a.length c1]),
              (false, .agg #[.int .i64 (m : Int), .slice A1 a.length c1]),
              (false, .agg #[.int .i64 (m : Int), .slice A5 jl.length c5]),
              (false, .bool true),
              (false, .bool false),
              (false, .bool false),
              (false, .agg #[.int .i64 (m : Int), .slice A2 b.length c2]),
              (false, .agg #[.int .i64 (m : Int), .slice A2 b.length c2]),
              (false, .agg #[.int .i64 (m : Int), .slice A5 jl.length c5]),
              (false, .bool true),
              (false, .bool false),
              (false, .bool false),
              (false, .bool false),
              (false, .agg #[.int .i64 (m : Int), .slice A5 jl.length c5]),
              (false, .agg #[.int .i64 (m : Int), .slice A7 wl.length c7]),
              (false, .bool true),
              (false, .bool false),
              (false, .bool false),
              (false, .bool false),
              (false, .agg #[.int .i64 (m : Int), .slice A5 jl.length c5]),
              (false, .agg #[.int .i64 (m : Int), .slice A5 jl.length c5]),
              (false, .bool true),
              (false, .bool false),
              (false, .bool false)]) (by kernel_rfl) (by kernel_rfl) rfl (fun _ _ _ _ h _ => h) (allOps_spec ?_) ?_
          · refine ⟨?_, ?_, ?_, ?_, ?_, ?_, ?_, ?_, ?_, ?_, ?_, ?_, ?_, ?_, ?_, ?_, ?_, ?_, ?_, ?_, ?_, ?_, ?_, ?_, trivial⟩
            · intro ac w' hb hp
              have b3 : ac.tmps[3]?.getD undef = .pointer (some ⟨w.heap.size, 0, none⟩) := hb.at 3 (by kernel_rfl)
              have q0 := (HXA7.out.below hb.ext).cell 0
              have q1 := (HXA7.out.below hb.ext).cell 1
              exact wd_run rfl rfl (by simp [execOp, go_sem, Act.eval, b3, q0, q1])
            · intro ac w' hb hp
              refine step_call (f := 15) (args := #[.agg #[.int .i64 (m : Int), .slice A1 a.length c1]]) rfl (by simp [go_sem, wd_get (hp ⟨0, .data⟩ (by simp) rfl _ rfl) rfl rfl]) ?_
              exact (own_any (m : Int) A1 a.length c1 w').mono fun e w9 h9 => ⟨_, h9.1, h9.2, wd_mk rfl fun _ => rfl⟩
            · intro ac w' hb hp
              have b7 : ac.tmps[7]?.getD undef = .pointer (some ⟨nb5, 0, none⟩) := hb.at 7 (by kernel_rfl)
              have q0 := (HNJ7.out.below hb.ext).cell 0
              have q1 := (HNJ7.out.below hb.ext).cell 1
              exact wd_run rfl rfl (by simp [execOp, go_sem, Act.eval, b7, q0, q1])
            · intro ac w' hb hp
              refine step_call (f := 35) (args := #[.agg #[.int .i64 (m : Int), .slice A1 a.length c1], .agg #[.int .i64 (m : Int), .slice A5 jl.length c5]]) rfl (by simp [go_sem, wd_get (hp ⟨1, .data⟩ (by simp) rfl _ rfl) rfl rfl, wd_get (hp ⟨2, .data⟩ (by simp) rfl _ rfl) rfl rfl]) ?_
              exact (HU1.out w' hb.ext).mono fun e w9 h9 => ⟨_, h9.1, h9.2, wd_mk rfl fun _ => rfl⟩
            · exact fun ac w' hb hp => wd_run rfl rfl (by simp [execOp, go_sem, Act.eval, wd_get (hp ⟨3, .data⟩ (by simp) rfl _ rfl) rfl rfl])
            · exact fun ac w' hb hp => wd_run rfl rfl (by simp [execOp, go_sem, Act.eval, wd_get (hp ⟨4, .data⟩ (by simp) rfl _ rfl) rfl rfl])
            · intro ac w' hb hp
              have gg := wd_get (hp ⟨5, .guard⟩ (by simp) rfl _ rfl) rfl rfl
              have b4 : ac.tmps[4]?.getD undef = .pointer (some ⟨w.heap.size + 1, 0, none⟩) := hb.at 4 (by kernel_rfl)
              have q0 := (HXB7.out.below hb.ext).cell 0
              have q1 := (HXB7.out.below hb.ext).cell 1
              exact wd_run rfl (by simp [Region.wanted, yielded, bool_at gg]) (by simp [execOp, go_sem, Act.eval, b4, q0, q1])
            · intro ac w' hb hp
              have gg := wd_get (hp ⟨5, .guard⟩ (by simp) rfl _ rfl) rfl rfl
              refine step_call (f := 15) (args := #[.agg #[.int .i64 (m : Int), .slice A2 b.length c2]]) (by simp [Region.wanted, yielded, bool_at gg]) (by simp [go_sem, wd_get (hp ⟨6, .data⟩ (by simp) rfl _ rfl) rfl rfl]) ?_
              exact (own_any (m : Int) A2 b.length c2 w').mono fun e w9 h9 => ⟨_, h9.1, h9.2, wd_mk rfl fun _ => rfl⟩
            · intro ac w' hb hp
              have gg := wd_get (hp ⟨5, .guard⟩ (by simp) rfl _ rfl) rfl rfl
              have b7 : ac.tmps[7]?.getD undef = .pointer (some ⟨nb5, 0, none⟩) := hb.at 7 (by kernel_rfl)
              have q0 := (HNJ7.out.below hb.ext).cell 0
              have q1 := (HNJ7.out.below hb.ext).cell 1
              exact wd_run rfl (by simp [Region.wanted, yielded, bool_at gg]) (by simp [execOp, go_sem, Act.eval, b7, q0, q1])
            · intro ac w' hb hp
              have gg := wd_get (hp ⟨5, .guard⟩ (by simp) rfl _ rfl) rfl rfl
              refine step_call (f := 35) (args := #[.agg #[.int .i64 (m : Int), .slice A2 b.length c2], .agg #[.int .i64 (m : Int), .slice A5 jl.length c5]]) (by simp [Region.wanted, yielded, bool_at gg]) (by simp [go_sem, wd_get (hp ⟨7, .data⟩ (by simp) rfl _ rfl) rfl rfl, wd_get (hp ⟨8, .data⟩ (by simp) rfl _ rfl) rfl rfl]) ?_
              exact (HU2.out w' hb.ext).mono fun e w9 h9 => ⟨_, h9.1, h9.2, wd_mk rfl fun _ => rfl⟩
            · intro ac w' hb hp
              have gg := wd_get (hp ⟨5, .guard⟩ (by simp) rfl _ rfl) rfl rfl
              exact wd_run rfl (by simp [Region.wanted, yielded, bool_at gg]) (by simp [execOp, go_sem, Act.eval, wd_get (hp ⟨9, .data⟩ (by simp) rfl _ rfl) rfl rfl])
            · exact fun ac w' hb hp => wd_run rfl rfl (by simp [execOp, go_sem, Act.eval, wd_get (hp ⟨5, .data⟩ (by simp) rfl _ rfl) rfl rfl, wd_get (hp ⟨10, .data⟩ (by simp) rfl _ rfl) rfl rfl])
            · exact fun ac w' hb hp => wd_run rfl rfl (by simp [execOp, go_sem, Act.eval, wd_get (hp ⟨11, .data⟩ (by simp) rfl _ rfl) rfl rfl])
            · intro ac w' hb hp
              have gg := wd_get (hp ⟨12, .guard⟩ (by simp) rfl _ rfl) rfl rfl
              have b7 : ac.tmps[7]?.getD undef = .pointer (some ⟨nb5, 0, none⟩) := hb.at 7 (by kernel_rfl)
              have q0 := (HNJ7.out.below hb.ext).cell 0
              have q1 := (HNJ7.out.below hb.ext).cell 1
              exact wd_run rfl (by simp [Region.wanted, yielded, bool_at gg]) (by simp [execOp, go_sem, Act.eval, b7, q0, q1])
            · intro ac w' hb hp
              have gg := wd_get (hp ⟨12, .guard⟩ (by simp) rfl _ rfl) rfl rfl
              have b9 : ac.tmps[9]?.getD undef = .pointer (some ⟨nb7, 0, none⟩) := hb.at 9 (by kernel_rfl)
              have q0 := (HNW7.out.below hb.ext).cell 0
              have q1 := (HNW7.out.below hb.ext).cell 1
              exact wd_run rfl (by simp [Region.wanted, yielded, bool_at gg]) (by simp [execOp, go_sem, Act.eval, b9, q0, q1])
            · intro ac w' hb hp
              have gg := wd_get (hp ⟨12, .guard⟩ (by simp) rfl _ rfl) rfl rfl
              refine step_call (f := 35) (args := #[.agg #[.int .i64 (m : Int), .slice A5 jl.length c5], .agg #[.int .i64 (m : Int), .slice A7 wl.length c7]]) (by simp [Region.wanted, yielded, bool_at gg]) (by simp [go_sem, wd_get (hp ⟨13, .data⟩ (by simp) rfl _ rfl) rfl rfl, wd_get (hp ⟨14, .data⟩ (by simp) rfl _ rfl) rfl rfl]) ?_
              exact (HU3.out w' hb.ext).mono fun e w9 h9 => ⟨_, h9.1, h9.2, wd_mk rfl fun _ => rfl⟩
            · intro ac w' hb hp
              have gg := wd_get (hp ⟨12, .guard⟩ (by simp) rfl _ rfl) rfl rfl
              exact wd_run rfl (by simp [Region.wanted, yielded, bool_at gg]) (by simp [execOp, go_sem, Act.eval, wd_get (hp ⟨15, .data⟩ (by simp) rfl _ rfl) rfl rfl])
            · exact fun ac w' hb hp => wd_run rfl rfl (by simp [execOp, go_sem, Act.eval, wd_get (hp ⟨12, .data⟩ (by simp) rfl _ rfl) rfl rfl, wd_get (hp ⟨16, .data⟩ (by simp) rfl _ rfl) rfl rfl])
            · exact fun ac w' hb hp => wd_run rfl rfl (by simp [execOp, go_sem, Act.eval, wd_get (hp ⟨17, .data⟩ (by simp) rfl _ rfl) rfl rfl])
            · intro ac w' hb hp
              have gg := wd_get (hp ⟨18, .guard⟩ (by simp) rfl _ rfl) rfl rfl
              have b7 : ac.tmps[7]?.getD undef = .pointer (some ⟨nb5, 0, none⟩) := hb.at 7 (by kernel_rfl)
              have q0 := (HNJ7.out.below hb.ext).cell 0
              have q1 := (HNJ7.out.below hb.ext).cell 1
              exact wd_run rfl (by simp [Region.wanted, yielded, bool_at gg]) (by simp [execOp, go_sem, Act.eval, b7, q0, q1])
            · intro ac w' hb hp
              have gg := wd_get (hp ⟨18, .guard⟩ (by simp) rfl _ rfl) rfl rfl
              have b7 : ac.tmps[7]?.getD undef = .pointer (some ⟨nb5, 0, none⟩) := hb.at 7 (by kernel_rfl)
              have q0 := (HNJ7.out.below hb.ext).cell 0
              have q1 := (HNJ7.out.below hb.ext).cell 1
              exact wd_run rfl (by simp [Region.wanted, yielded, bool_at gg]) (by simp [execOp, go_sem, Act.eval, b7, q0, q1])
            · intro ac w' hb hp
              have gg := wd_get (hp ⟨18, .guard⟩ (by simp) rfl _ rfl) rfl rfl
              refine step_call (f := 35) (args := #[.agg #[.int .i64 (m : Int), .slice A5 jl.length c5], .agg #[.int .i64 (m : Int), .slice A5 jl.length c5]]) (by simp [Region.wanted, yielded, bool_at gg]) (by simp [go_sem, wd_get (hp ⟨19, .data⟩ (by simp) rfl _ rfl) rfl rfl, wd_get (hp ⟨20, .data⟩ (by simp) rfl _ rfl) rfl rfl]) ?_
              exact (HU4.out w' hb.ext).mono fun e w9 h9 => ⟨_, h9.1, h9.2, wd_mk rfl fun _ => rfl⟩
            · intro ac w' hb hp
              have gg := wd_get (hp ⟨18, .guard⟩ (by simp) rfl _ rfl) rfl rfl
              exact wd_run rfl (by simp [Region.wanted, yielded, bool_at gg]) (by simp [execOp, go_sem, Act.eval, wd_get (hp ⟨21, .data⟩ (by simp) rfl _ rfl) rfl rfl])
            · exact fun ac w' hb hp => wd_run rfl rfl (by simp [execOp, go_sem, Act.eval, wd_get (hp ⟨18, .data⟩ (by simp) rfl _ rfl) rfl rfl, wd_get (hp ⟨22, .data⟩ (by simp) rfl _ rfl) rfl rfl])
          · intro vs w8 hext hall
            have HEXT := Lib.hid hext
            have e23 : vs 23 = .bool false := hall 23 (by decide) rfl
            clear hext hall
            simp only [putAll, Act.put, List.setIfInBounds_toArray, List.set_cons_zero, List.set_cons_succ, Nat.zero_add, Nat.reduceAdd, e23]
            clear e23
            have HB8 := Lib.hid (HB7.out.trans (HEXT.out.mono HB7.out.size))
            have HXA8 := Lib.hid (HXA7.out.below HEXT.out)
            have HXB8 := Lib.hid (HXB7.out.below HEXT.out)
            have HXC8 := Lib.hid (HXC7.out.below HEXT.out)
            have HSA8 := Lib.hid (HSA7.out.below HEXT.out)
            have HSB8 := Lib.hid (HSB7.out.below HEXT.out)
            have HSC8 := Lib.hid (HSC7.out.below HEXT.out)
            have HNJ8 := Lib.hid (HNJ7.out.below HEXT.out)
            have HSJ8 := Lib.hid (HSJ7.out.below HEXT.out)
            clear HEXT HB7 HXA7 HXB7 HXC7 HSA7 HSB7 HSC7 HNJ7 HNW7 HSJ7 HSW7 HU1 HU2 HU3 HU4
            obtain ⟨V, hV⟩ : ∃ V, V = zvB N3 cc := ⟨_, rfl⟩
            obtain ⟨E, hE⟩ : ∃ E, E = (N3 == (m : Int)) := ⟨_, rfl⟩
            obtain ⟨S1, hS1⟩ : ∃ S1, S1 = subR (m : Int) a N3 cc := ⟨_, rfl⟩
            obtain ⟨S2, hS2⟩ : ∃ S2, S2 = subR (m : Int) b N3 cc := ⟨_, rfl⟩
            obtain ⟨S3, hS3⟩ : ∃ S3, S3 = subR (m : Int) jl N3 cc := ⟨_, rfl⟩
            obtain ⟨V2, hV2⟩ : ∃ V2, V2 = (V && E) := ⟨_, rfl⟩
            obtain ⟨V3, hV3⟩ : ∃ V3, V3 = (V2 && S1) := ⟨_, rfl⟩
            obtain ⟨V4, hV4⟩ : ∃ V4, V4 = (V3 && S2) := ⟨_, rfl⟩
            obtain ⟨R5, hR5⟩ : ∃ R5, R5 = (!V4 || S3) := ⟨_, rfl⟩
            have HV := Lib.hid hV; have HE := Lib.hid hE; have HQ1 := Lib.hid hS1; have HQ2 := Lib.hid hS2; have HQ3 := Lib.hid hS3
            have HV2 := Lib.hid hV2; have HV3 := Lib.hid hV3; have HV4 := Lib.hid hV4; have HR5 := Lib.hid hR5
            have HFIN := Lib.hid (show R5 = true from by
              rw [hR5]
              cases h4 : V4 with
              | false => rfl
              | true =>
                rw [h4] at hV4
                have h5 := hV4.symm
                rw [Bool.and_eq_true] at h5
                have h6 := hV3 ▸ h5.1
                rw [Bool.and_eq_true] at h6
                have h7 := hV2 ▸ h6.1
                rw [Bool.and_eq_true] at h7
                have hn : N3 = (m : Int) := by have := hE ▸ h7.2; simpa using this
                have hz : Zv (m + 1) cc := by
                  have h8 := hV ▸ h7.1
                  rw [hn] at h8
                  obtain ⟨k, hk, -, -, hz⟩ := zv_nat h8
                  obtain rfl : m = k := by omega
                  exact hz
                rw [hn] at hS1 hS2 hS3
                have h9 := (subR_iff HZ1.out hz).1 (hS1 ▸ h6.2)
                have h10 := (subR_iff HZ2.out hz).1 (hS2 ▸ h5.2)
                have h11 := (subR_iff HVJ.out hz).2 (HS5.out cc hz h9 h10)
                rw [hS3, h11]; rfl)
            clear hV hE hS1 hS2 hS3 hV2 hV3 hV4 hR5
            have HU1 := Lib.hid (show ∀ w6, Below w8.heap.size w8 w6 → Calls Try.prog 35 #[.agg #[.int .i64 (m : Int), .slice A1 a.length c1], .agg #[.int .i64 N3, .slice A3 cc.length c3]] w6 (Tells w6 (.bool S1)) from
              fun w6 h6 => by rw [HQ1.out]; exact sub_any (m : Int) N3 _ _ a cc w6 (HSA8.out.below h6) HL1.out (HSC8.out.below h6) HL3.out)
            have HU2 := Lib.hid (show ∀ w6, Below w8.heap.size w8 w6 → Calls Try.prog 35 #[.agg #[.int .i64 (m : Int), .slice A2 b.length c2], .agg #[.int .i64 N3, .slice A3 cc.length c3]] w6 (Tells w6 (.bool S2)) from
              fun w6 h6 => by rw [HQ2.out]; exact sub_any (m : Int) N3 _ _ b cc w6 (HSB8.out.below h6) HL2.out (HSC8.out.below h6) HL3.out)
            have HUV := Lib.hid (show ∀ w6, Below w8.heap.size w8 w6 → Calls Try.prog 21 #[.agg #[.int .i64 N3, .slice A3 cc.length c3]] w6 (Tells w6 (.bool V)) from
              fun w6 h6 => by rw [HV.out]; exact valid_any N3 _ cc w6 (HSC8.out.below h6) HL3.out)
            go_wp2_with fail
            refine region_phi (n := 114) (Wd [(false, .agg #[.int .i64 N3, .slice A3 cc.length c3]),
                (false, .agg #[.int .i64 N3, .slice A3 cc.length c3]),
                (false, .bool V),
                (false, .bool V),
                ((!V), .pointer (some ⟨w.heap.size + 2, 0, none⟩)),
                ((!V), .int .i64 N3),
                ((!V), .pointer (some ⟨w.heap.size, 0, none⟩)),
                ((!V), .int .i64 (m : Int)),
                ((!V), .bool E),
                (false, .bool V2),
                (false, .bool V2),
                ((!V2), .agg #[.int .i64 (m : Int), .slice A1 a.length c1]),
                ((!V2), .agg #[.int .i64 (m : Int), .slice A1 a.length c1]),
                ((!V2), .agg #[.int .i64 N3, .slice A3 cc.length c3]),
                ((!V2), .agg #[.int .i64 N3, .slice A3 cc.length c3]),
                ((!V2), .bool S1),
                (false, .bool V3),
                (false, .bool V3),
                ((!V3), .agg #[.int .i64 (m : Int), .slice A2 b.length c2]),
                ((!V3), .agg #[.int .i64 (m : Int), .slice A2 b.length c2]),
                ((!V3), .agg #[.int .i64 N3, .slice A3 cc.length c3]),
                ((!V3), .agg #[.int .i64 N3, .slice A3 cc.length c3]),
                ((!V3), .bool S2),
                (false, .bool V4),
                (false, .bool V4)]) (by kernel_rfl) (by kernel_rfl) rfl (fun _ _ _ _ h _ => h) (allOps_spec ?_) ?_
            · refine ⟨?_, ?_, ?_, ?_, ?_, ?_, ?_, ?_, ?_, ?_, ?_, ?_, ?_, ?_, ?_, ?_, ?_, ?_, ?_, ?_, ?_, ?_, ?_, ?_, ?_, trivial⟩
              · intro ac w' hb hp
                have b5 : ac.tmps[5]?.getD undef = .pointer (some ⟨w.heap.size + 2, 0, none⟩) := hb.at 5 (by kernel_rfl)
                have q0 := (HXC8.out.below hb.ext).cell 0
                have q1 := (HXC8.out.below hb.ext).cell 1
                exact wd_run rfl rfl (by simp [execOp, go_sem, Act.eval, b5, q0, q1])
              · intro ac w' hb hp
                refine step_call (f := 15) (args := #[.agg #[.int .i64 N3, .slice A3 cc.length c3]]) rfl (by simp [go_sem, wd_get (hp ⟨0, .data⟩ (by simp) rfl _ rfl) rfl rfl]) ?_
                exact (own_any N3 A3 cc.length c3 w').mono fun e w9 h9 => ⟨_, h9.1, h9.2, wd_mk rfl fun _ => rfl⟩
              · intro ac w' hb hp
                refine step_call (f := 21) (args := #[.agg #[.int .i64 N3, .slice A3 cc.length c3]]) rfl (by simp [go_sem, wd_get (hp ⟨1, .data⟩ (by simp) rfl _ rfl) rfl rfl]) ?_
                exact (HUV.out w' hb.ext).mono fun e w9 h9 => ⟨_, h9.1, h9.2, wd_mk rfl fun _ => rfl⟩
              · intro ac w' hb hp
                exact wd_run rfl rfl (by simp [execOp, go_sem, Act.eval, wd_get (hp ⟨2, .data⟩ (by simp) rfl _ rfl) rfl rfl])
              · intro ac w' hb hp
                have gg := wd_get (hp ⟨3, .guard⟩ (by simp) rfl _ rfl) rfl rfl
                by_cases hg : V = true
                · rw [hg] at gg
                  have b5 : ac.tmps[5]?.getD undef = .pointer (some ⟨w.heap.size + 2, 0, none⟩) := hb.at 5 (by kernel_rfl)
                  exact wd_run rfl (by simp [Region.wanted, yielded, bool_at gg]) (by simp [execOp, go_sem, Act.eval, b5])
                · rw [Bool.not_eq_true] at hg
                  rw [hg] at gg
                  exact wd_off rfl (by rw [hg] <;> rfl) (by simp [Region.wanted, yielded, bool_at gg])
              · intro ac w' hb hp
                have gg := wd_get (hp ⟨3, .guard⟩ (by simp) rfl _ rfl) rfl rfl
                by_cases hg : V = true
                · rw [hg] at gg
                  have q0 := (HXC8.out.below hb.ext).cell 0
                  exact wd_run rfl (by simp [Region.wanted, yielded, bool_at gg]) (by simp [execOp, go_sem, Act.eval, wd_get (hp ⟨4, .data⟩ (by simp) rfl _ rfl) rfl (by rw [hg] <;> rfl), q0])
                · rw [Bool.not_eq_true] at hg
                  rw [hg] at gg
                  exact wd_off rfl (by rw [hg] <;> rfl) (by simp [Region.wanted, yielded, bool_at gg])
              · intro ac w' hb hp
                have gg := wd_get (hp ⟨3, .guard⟩ (by simp) rfl _ rfl) rfl rfl
                by_cases hg : V = true
                · rw [hg] at gg
                  have b3 : ac.tmps[3]?.getD undef = .pointer (some ⟨w.heap.size, 0, none⟩) := hb.at 3 (by kernel_rfl)
                  exact wd_run rfl (by simp [Region.wanted, yielded, bool_at gg]) (by simp [execOp, go_sem, Act.eval, b3])
                · rw [Bool.not_eq_true] at hg
                  rw [hg] at gg
                  exact wd_off rfl (by rw [hg] <;> rfl) (by simp [Region.wanted, yielded, bool_at gg])
              · intro ac w' hb hp
                have gg := wd_get (hp ⟨3, .guard⟩ (by simp) rfl _ rfl) rfl rfl
                by_cases hg : V = true
                · rw [hg] at gg
                  have q0 := (HXA8.out.below hb.ext).cell 0
                  exact wd_run rfl (by simp [Region.wanted, yielded, bool_at gg]) (by simp [execOp, go_sem, Act.eval, wd_get (hp ⟨6, .data⟩ (by simp) rfl _ rfl) rfl (by rw [hg] <;> rfl), q0])
                · rw [Bool.not_eq_true] at hg
                  rw [hg] at gg
                  exact wd_off rfl (by rw [hg] <;> rfl) (by simp [Region.wanted, yielded, bool_at gg])
              · intro ac w' hb hp
                have gg := wd_get (hp ⟨3, .guard⟩ (by simp) rfl _ rfl) rfl rfl
                by_cases hg : V = true
                · rw [hg] at gg
                  exact wd_run rfl (by simp [Region.wanted, yielded, bool_at gg]) (by simp [execOp, go_sem, Act.eval, wd_get (hp ⟨5, .data⟩ (by simp) rfl _ rfl) rfl (by rw [hg] <;> rfl), wd_get (hp ⟨7, .data⟩ (by simp) rfl _ rfl) rfl (by rw [hg] <;> rfl), HE.out])
                · rw [Bool.not_eq_true] at hg
                  rw [hg] at gg
                  exact wd_off rfl (by rw [hg] <;> rfl) (by simp [Region.wanted, yielded, bool_at gg])
              · intro ac w' hb hp
                have gg := wd_get (hp ⟨3, .data⟩ (by simp) rfl _ rfl) rfl rfl
                by_cases hg : V = true
                · rw [hg] at gg
                  exact wd_run2 (v := .bool E) rfl rfl (by simp [execOp, go_sem, Act.eval, gg, wd_get (hp ⟨8, .data⟩ (by simp) rfl _ rfl) rfl (by rw [hg] <;> rfl)]) (by rw [HV2.out, hg] <;> simp)
                · rw [Bool.not_eq_true] at hg
                  rw [hg] at gg
                  exact wd_run2 (v := .bool false) rfl rfl (by simp [execOp, go_sem, Act.eval, gg]) (by rw [HV2.out, hg] <;> simp)
              · intro ac w' hb hp
                exact wd_run rfl rfl (by simp [execOp, go_sem, Act.eval, wd_get (hp ⟨9, .data⟩ (by simp) rfl _ rfl) rfl rfl])
              · intro ac w' hb hp
                have gg := wd_get (hp ⟨10, .guard⟩ (by simp) rfl _ rfl) rfl rfl
                by_cases hg : V2 = true
                · rw [hg] at gg
                  have b3 : ac.tmps[3]?.getD undef = .pointer (some ⟨w.heap.size, 0, none⟩) := hb.at 3 (by kernel_rfl)
                  have q0 := (HXA8.out.below hb.ext).cell 0
                  have q1 := (HXA8.out.below hb.ext).cell 1
                  exact wd_run rfl (by simp [Region.wanted, yielded, bool_at gg]) (by simp [execOp, go_sem, Act.eval, b3, q0, q1])
                · rw [Bool.not_eq_true] at hg
                  rw [hg] at gg
                  exact wd_off rfl (by rw [hg] <;> rfl) (by simp [Region.wanted, yielded, bool_at gg])
              · intro ac w' hb hp
                have gg := wd_get (hp ⟨10, .guard⟩ (by simp) rfl _ rfl) rfl rfl
                by_cases hg : V2 = true
                · rw [hg] at gg
                  refine step_call (f := 15) (args := #[.agg #[.int .i64 (m : Int), .slice A1 a.length c1]]) (by simp [Region.wanted, yielded, bool_at gg]) (by simp [go_sem, wd_get (hp ⟨11, .data⟩ (by simp) rfl _ rfl) rfl (by rw [hg] <;> rfl)]) ?_
                  exact (own_any (m : Int) A1 a.length c1 w').mono fun e w9 h9 => ⟨_, h9.1, h9.2, wd_mk rfl fun _ => rfl⟩
                · rw [Bool.not_eq_true] at hg
                  rw [hg] at gg
                  exact wd_off rfl (by rw [hg] <;> rfl) (by simp [Region.wanted, yielded, bool_at gg])
              · intro ac w' hb hp
                have gg := wd_get (hp ⟨10, .guard⟩ (by simp) rfl _ rfl) rfl rfl
                by_cases hg : V2 = true
                · rw [hg] at gg
                  have b5 : ac.tmps[5]?.getD undef = .pointer (some ⟨w.heap.size + 2, 0, none⟩) := hb.at 5 (by kernel_rfl)
                  have q0 := (HXC8.out.below hb.ext).cell 0
                  have q1 := (HXC8.out.below hb.ext).cell 1
                  exact wd_run rfl (by simp [Region.wanted, yielded, bool_at gg]) (by simp [execOp, go_sem, Act.eval, b5, q0, q1])
                · rw [Bool.not_eq_true] at hg
                  rw [hg] at gg
                  exact wd_off rfl (by rw [hg] <;> rfl) (by simp [Region.wanted, yielded, bool_at gg])
              · intro ac w' hb hp
                have gg := wd_get (hp ⟨10, .guard⟩ (by simp) rfl _ rfl) rfl rfl
                by_cases hg : V2 = true
                · rw [hg] at gg
                  refine step_call (f := 15) (args := #[.agg #[.int .i64 N3, .slice A3 cc.length c3]]) (by simp [Region.wanted, yielded, bool_at gg]) (by simp [go_sem, wd_get (hp ⟨13, .data⟩ (by simp) rfl _ rfl) rfl (by rw [hg] <;> rfl)]) ?_
                  exact (own_any N3 A3 cc.length c3 w').mono fun e w9 h9 => ⟨_, h9.1, h9.2, wd_mk rfl fun _ => rfl⟩
                · rw [Bool.not_eq_true] at hg
                  rw [hg] at gg
                  exact wd_off rfl (by rw [hg] <;> rfl) (by simp [Region.wanted, yielded, bool_at gg])
              · intro ac w' hb hp
                have gg := wd_get (hp ⟨10, .guard⟩ (by simp) rfl _ rfl) rfl rfl
                by_cases hg : V2 = true
                · rw [hg] at gg
                  refine step_call (f := 35) (args := #[.agg #[.int .i64 (m : Int), .slice A1 a.length c1], .agg #[.int .i64 N3, .slice A3 cc.length c3]]) (by simp [Region.wanted, yielded, bool_at gg]) (by simp [go_sem, wd_get (hp ⟨12, .data⟩ (by simp) rfl _ rfl) rfl (by rw [hg] <;> rfl), wd_get (hp ⟨14, .data⟩ (by simp) rfl _ rfl) rfl (by rw [hg] <;> rfl)]) ?_
                  exact (HU1.out w' hb.ext).mono fun e w9 h9 => ⟨_, h9.1, h9.2, wd_mk rfl fun _ => rfl⟩
                · rw [Bool.not_eq_true] at hg
                  rw [hg] at gg
                  exact wd_off rfl (by rw [hg] <;> rfl) (by simp [Region.wanted, yielded, bool_at gg])
              · intro ac w' hb hp
                have gg := wd_get (hp ⟨10, .data⟩ (by simp) rfl _ rfl) rfl rfl
                by_cases hg : V2 = true
                · rw [hg] at gg
                  exact wd_run2 (v := .bool S1) rfl rfl (by simp [execOp, go_sem, Act.eval, gg, wd_get (hp ⟨15, .data⟩ (by simp) rfl _ rfl) rfl (by rw [hg] <;> rfl)]) (by rw [HV3.out, hg] <;> simp)
                · rw [Bool.not_eq_true] at hg
                  rw [hg] at gg
                  exact wd_run2 (v := .bool false) rfl rfl (by simp [execOp, go_sem, Act.eval, gg]) (by rw [HV3.out, hg] <;> simp)
              · intro ac w' hb hp
                exact wd_run rfl rfl (by simp [execOp, go_sem, Act.eval, wd_get (hp ⟨16, .data⟩ (by simp) rfl _ rfl) rfl rfl])
              · intro ac w' hb hp
                have gg := wd_get (hp ⟨17, .guard⟩ (by simp) rfl _ rfl) rfl rfl
                by_cases hg : V3 = true
                · rw [hg] at gg
                  have b4 : ac.tmps[4]?.getD undef = .pointer (some ⟨w.heap.size + 1, 0, none⟩) := hb.at 4 (by kernel_rfl)
                  have q0 := (HXB8.out.below hb.ext).cell 0
                  have q1 := (HXB8.out.below hb.ext).cell 1
                  exact wd_run rfl (by simp [Region.wanted, yielded, bool_at gg]) (by simp [execOp, go_sem, Act.eval, b4, q0, q1])
                · rw [Bool.not_eq_true] at hg
                  rw [hg] at gg
                  exact wd_off rfl (by rw [hg] <;> rfl) (by simp [Region.wanted, yielded, bool_at gg])
              · intro ac w' hb hp
                have gg := wd_get (hp ⟨17, .guard⟩ (by simp) rfl _ rfl) rfl rfl
                by_cases hg : V3 = true
                · rw [hg] at gg
                  refine step_call (f := 15) (args := #[.agg #[.int .i64 (m : Int), .slice A2 b.length c2]]) (by simp [Region.wanted, yielded, bool_at gg]) (by simp [go_sem, wd_get (hp ⟨18, .data⟩ (by simp) rfl _ rfl) rfl (by rw [hg] <;> rfl)]) ?_
                  exact (own_any (m : Int) A2 b.length c2 w').mono fun e w9 h9 => ⟨_, h9.1, h9.2, wd_mk rfl fun _ => rfl⟩
                · rw [Bool.not_eq_true] at hg
                  rw [hg] at gg
                  exact wd_off rfl (by rw [hg] <;> rfl) (by simp [Region.wanted, yielded, bool_at gg])
              · intro ac w' hb hp
                have gg := wd_get (hp ⟨17, .guard⟩ (by simp) rfl _ rfl) rfl rfl
                by_cases hg : V3 = true
                · rw [hg] at gg
                  have b5 : ac.tmps[5]?.getD undef = .pointer (some ⟨w.heap.size + 2, 0, none⟩) := hb.at 5 (by kernel_rfl)
                  have q0 := (HXC8.out.below hb.ext).cell 0
                  have q1 := (HXC8.out.below hb.ext).cell 1
                  exact wd_run rfl (by simp [Region.wanted, yielded, bool_at gg]) (by simp [execOp, go_sem, Act.eval, b5, q0, q1])
                · rw [Bool.not_eq_true] at hg
                  rw [hg] at gg
                  exact wd_off rfl (by rw [hg] <;> rfl) (by simp [Region.wanted, yielded, bool_at gg])
              · intro ac w' hb hp
                have gg := wd_get (hp ⟨17, .guard⟩ (by simp) rfl _ rfl) rfl rfl
                by_cases hg : V3 = true
                · rw [hg] at gg
                  refine step_call (f := 15) (args := #[.agg #[.int .i64 N3, .slice A3 cc.length c3]]) (by simp [Region.wanted, yielded, bool_at gg]) (by simp [go_sem, wd_get (hp ⟨20, .data⟩ (by simp) rfl _ rfl) rfl (by rw [hg] <;> rfl)]) ?_
                  exact (own_any N3 A3 cc.length c3 w').mono fun e w9 h9 => ⟨_, h9.1, h9.2, wd_mk rfl fun _ => rfl⟩
                · rw [Bool.not_eq_true] at hg
                  rw [hg] at gg
                  exact wd_off rfl (by rw [hg] <;> rfl) (by simp [Region.wanted, yielded, bool_at gg])
              · intro ac w' hb hp
                have gg := wd_get (hp ⟨17, .guard⟩ (by simp) rfl _ rfl) rfl rfl
                by_cases hg : V3 = true
                · rw [hg] at gg
                  refine step_call (f := 35) (args := #[.agg #[.int .i64 (m : Int), .slice A2 b.length c2], .agg #[.int .i64 N3, .slice A3 cc.length c3]]) (by simp [Region.wanted, yielded, bool_at gg]) (by simp [go_sem, wd_get (hp ⟨19, .data⟩ (by simp) rfl _ rfl) rfl (by rw [hg] <;> rfl), wd_get (hp ⟨21, .data⟩ (by simp) rfl _ rfl) rfl (by rw [hg] <;> rfl)]) ?_
                  exact (HU2.out w' hb.ext).mono fun e w9 h9 => ⟨_, h9.1, h9.2, wd_mk rfl fun _ => rfl⟩
                · rw [Bool.not_eq_true] at hg
                  rw [hg] at gg
                  exact wd_off rfl (by rw [hg] <;> rfl) (by simp [Region.wanted, yielded, bool_at gg])
              · intro ac w' hb hp
                have gg := wd_get (hp ⟨17, .data⟩ (by simp) rfl _ rfl) rfl rfl
                by_cases hg : V3 = true
                · rw [hg] at gg
                  exact wd_run2 (v := .bool S2) rfl rfl (by simp [execOp, go_sem, Act.eval, gg, wd_get (hp ⟨22, .data⟩ (by simp) rfl _ rfl) rfl (by rw [hg] <;> rfl)]) (by rw [HV4.out, hg] <;> simp)
                · rw [Bool.not_eq_true] at hg
                  rw [hg] at gg
                  exact wd_run2 (v := .bool false) rfl rfl (by simp [execOp, go_sem, Act.eval, gg]) (by rw [HV4.out, hg] <;> simp)
              · intro ac w' hb hp
                exact wd_run rfl rfl (by simp [execOp, go_sem, Act.eval, wd_get (hp ⟨23, .data⟩ (by simp) rfl _ rfl) rfl rfl])
            · intro vs w10 hext hall
              have HEXT := Lib.hid hext
              have e24 : vs 24 = .bool V4 := hall 24 (by decide) rfl
              clear hext hall
              simp only [putAll, Act.put, List.setIfInBounds_toArray, List.set_cons_zero, List.set_cons_succ, Nat.zero_add, Nat.reduceAdd, e24]
              clear e24
              have HB10 := Lib.hid (HB8.out.trans (HEXT.out.mono HB8.out.size))
              have HXC10 := Lib.hid (HXC8.out.below HEXT.out)
              have HNJ10 := Lib.hid (HNJ8.out.below HEXT.out)
              have HSC10 := Lib.hid (HSC8.out.below HEXT.out)
              have HSJ10 := Lib.hid (HSJ8.out.below HEXT.out)
              clear HEXT HB8 HXA8 HXB8 HXC8 HSA8 HSB8 HSC8 HNJ8 HSJ8 HU1 HU2 HUV
              have HU3 := Lib.hid (show ∀ w6, Below w10.heap.size w10 w6 → Calls Try.prog 35 #[.agg #[.int .i64 (m : Int), .slice A5 jl.length c5], .agg #[.int .i64 N3, .slice A3 cc.length c3]] w6 (Tells w6 (.bool S3)) from
                fun w6 h6 => by rw [HQ3.out]; exact sub_any (m : Int) N3 _ _ jl cc w6 (HSJ10.out.below h6) HLJ.out (HSC10.out.below h6) HL3.out)
              go_wp2_with fail
              refine region_phi (n := 114) (Wd [(false, .bool V4),
                  (false, .bool (!V4)),
                  (false, .bool (!V4)),
                  ((!V4), .agg #[.int .i64 (m : Int), .slice A5 jl.length c5]),
                  ((!V4), .agg #[.int .i64 N3, .slice A3 cc.length c3]),
                  ((!V4), .agg #[.int .i64 N3, .slice A3 cc.length c3]),
                  ((!V4), .bool S3),
                  (false, .bool R5),
                  (false, .bool R5)]) (by kernel_rfl) (by kernel_rfl) rfl (fun _ _ _ _ h _ => h) (allOps_spec ?_) ?_
              · refine ⟨?_, ?_, ?_, ?_, ?_, ?_, ?_, ?_, ?_, trivial⟩
                · intro ac w' hb hp
                  have b11 : ac.tmps[11]?.getD undef = .bool V4 := hb.at 11 (by kernel_rfl)
                  exact wd_run rfl rfl (by simp [execOp, go_sem, Act.eval, b11])
                · intro ac w' hb hp
                  exact wd_run rfl rfl (by simp [execOp, go_sem, Act.eval, wd_get (hp ⟨0, .data⟩ (by simp) rfl _ rfl) rfl rfl])
                · intro ac w' hb hp
                  exact wd_run rfl rfl (by simp [execOp, go_sem, Act.eval, wd_get (hp ⟨1, .data⟩ (by simp) rfl _ rfl) rfl rfl])
                · intro ac w' hb hp
                  have gg := wd_get (hp ⟨2, .guard⟩ (by simp) rfl _ rfl) rfl rfl
                  by_cases hg : (!V4) = true
                  · rw [hg] at gg
                    exact wd_off rfl (by rw [hg] <;> rfl) (by simp [Region.wanted, yielded, bool_at gg])
                  · rw [Bool.not_eq_true] at hg
                    rw [hg] at gg
                    have b7 : ac.tmps[7]?.getD undef = .pointer (some ⟨nb5, 0, none⟩) := hb.at 7 (by kernel_rfl)
                    have q0 := (HNJ10.out.below hb.ext).cell 0
                    have q1 := (HNJ10.out.below hb.ext).cell 1
                    exact wd_run rfl (by simp [Region.wanted, yielded, bool_at gg]) (by simp [execOp, go_sem, Act.eval, b7, q0, q1])
                · intro ac w' hb hp
                  have gg := wd_get (hp ⟨2, .guard⟩ (by simp) rfl _ rfl) rfl rfl
                  by_cases hg : (!V4) = true
                  · rw [hg] at gg
                    exact wd_off rfl (by rw [hg] <;> rfl) (by simp [Region.wanted, yielded, bool_at gg])
                  · rw [Bool.not_eq_true] at hg
                    rw [hg] at gg
                    have b5 : ac.tmps[5]?.getD undef = .pointer (some ⟨w.heap.size + 2, 0, none⟩) := hb.at 5 (by kernel_rfl)
                    have q0 := (HXC10.out.below hb.ext).cell 0
                    have q1 := (HXC10.out.below hb.ext).cell 1
                    exact wd_run rfl (by simp [Region.wanted, yielded, bool_at gg]) (by simp [execOp, go_sem, Act.eval, b5, q0, q1])
                · intro ac w' hb hp
                  have gg := wd_get (hp ⟨2, .guard⟩ (by simp) rfl _ rfl) rfl rfl
                  by_cases hg : (!V4) = true
                  · rw [hg] at gg
                    exact wd_off rfl (by rw [hg] <;> rfl) (by simp [Region.wanted, yielded, bool_at gg])
                  · rw [Bool.not_eq_true] at hg
                    rw [hg] at gg
                    refine step_call (f := 15) (args := #[.agg #[.int .i64 N3, .slice A3 cc.length c3]]) (by simp [Region.wanted, yielded, bool_at gg]) (by simp [go_sem, wd_get (hp ⟨4, .data⟩ (by simp) rfl _ rfl) rfl (by rw [hg] <;> rfl)]) ?_
                    exact (own_any N3 A3 cc.length c3 w').mono fun e w9 h9 => ⟨_, h9.1, h9.2, wd_mk rfl fun _ => rfl⟩
                · intro ac w' hb hp
                  have gg := wd_get (hp ⟨2, .guard⟩ (by simp) rfl _ rfl) rfl rfl
                  by_cases hg : (!V4) = true
                  · rw [hg] at gg
                    exact wd_off rfl (by rw [hg] <;> rfl) (by simp [Region.wanted, yielded, bool_at gg])
                  · rw [Bool.not_eq_true] at hg
                    rw [hg] at gg
                    refine step_call (f := 35) (args := #[.agg #[.int .i64 (m : Int), .slice A5 jl.length c5], .agg #[.int .i64 N3, .slice A3 cc.length c3]]) (by simp [Region.wanted, yielded, bool_at gg]) (by simp [go_sem, wd_get (hp ⟨3, .data⟩ (by simp) rfl _ rfl) rfl (by rw [hg] <;> rfl), wd_get (hp ⟨5, .data⟩ (by simp) rfl _ rfl) rfl (by rw [hg] <;> rfl)]) ?_
                    exact (HU3.out w' hb.ext).mono fun e w9 h9 => ⟨_, h9.1, h9.2, wd_mk rfl fun _ => rfl⟩
                · intro ac w' hb hp
                  have gg := wd_get (hp ⟨2, .data⟩ (by simp) rfl _ rfl) rfl rfl
                  by_cases hg : (!V4) = true
                  · rw [hg] at gg
                    exact wd_run2 (v := .bool true) rfl rfl (by simp [execOp, go_sem, Act.eval, gg]) (by rw [HR5.out, hg] <;> simp)
                  · rw [Bool.not_eq_true] at hg
                    rw [hg] at gg
                    exact wd_run2 (v := .bool S3) rfl rfl (by simp [execOp, go_sem, Act.eval, gg, wd_get (hp ⟨6, .data⟩ (by simp) rfl _ rfl) rfl (by rw [hg] <;> rfl)]) (by rw [HR5.out, hg] <;> simp)
                · intro ac w' hb hp
                  exact wd_run rfl rfl (by simp [execOp, go_sem, Act.eval, wd_get (hp ⟨7, .data⟩ (by simp) rfl _ rfl) rfl rfl])
              · intro vs w11 hext hall
                have HEXT := Lib.hid hext
                have e8 : vs 8 = .bool R5 := hall 8 (by decide) rfl
                clear hext hall
                simp only [putAll, Act.put, List.setIfInBounds_toArray, List.set_cons_zero, List.set_cons_succ, Nat.zero_add, Nat.reduceAdd, e8]
                clear e8
                have HB11 := Lib.hid (HB10.out.trans (HEXT.out.mono HB10.out.size))
                clear HEXT
                go_wp2_with fail
                go_ret
                exact ⟨by rw [HFIN.out]; rfl, HB11.out⟩
end Go.Proofs.Ytepeeeiekeppjaa
