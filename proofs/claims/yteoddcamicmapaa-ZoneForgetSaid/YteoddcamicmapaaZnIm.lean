/- Layer 13: Implies (tools/gen_zi.py). -/
import Derived.Test.YteoddcamicmapaaZnAw
import Derived.Test.YteoddcamicmapaaZnAd
namespace Go.Proofs.Yteoddcamicmapaa
open Go.RowKit

/-- Implies. -/
noncomputable def impR (N : Int) (b : List Int) (X Y C : Int) : Bool :=
  (zvB N b && (knB N X && knB N Y)) && match closeR N b with | some c => decide (gt (N + 1).toNat c (X + 1).toNat (Y + 1).toNat ≤ C) | none => true
set_option maxRecDepth 20000 in
set_option maxHeartbeats 1000000 in
theorem implies_any (N X Y C : Int) (v : Value) (b : List Int) (w : World) (h : Sl iv w v b) (hl : b.length ≤ 9223372036854775807) :
    Calls Try.prog 23 #[.agg #[.int .i64 N, v], .agg #[.int .i64 X, .int .i64 Y, .int .i64 C]] w (Tells w (.bool (impR N b X Y C))) := by
  obtain ⟨A, c, rfl⟩ := h.shape
  have H := Lib.hid h
  clear h
  obtain ⟨R, hR⟩ : ∃ R, R = impR N b X Y C := ⟨_, rfl⟩
  rw [← hR]
  unfold impR at hR
  cases hp : zvB N b with
  | false =>
    rw [hp, Bool.false_and, Bool.false_and] at hR
    subst hR
    have Hp := Lib.hid hp
    clear hp
    go_enter Try.func23, Try.ntmps23
    go_wp2_with fail
    refine (valid_any N _ b _ (H.out.below (al2 w _ _)) hl).mono ?_; rintro e w1 ⟨rfl, hb⟩; rw [Hp.out]
    obtain ⟨-, -, HB⟩ := two_boxes rfl rfl hb
    clear hb
    go_wp2_with fail
    go_ret
    exact Tells.of HB.out
  | true =>
    obtain ⟨m, rfl, hm, -, hz⟩ := zv_nat hp
    rw [hp, Bool.true_and] at hR
    have Hp := Lib.hid hp
    have HZ := Lib.hid hz
    clear hp hz
    cases hk : (knB (m : Int) X && knB (m : Int) Y) with
    | false =>
      rw [hk, Bool.false_and] at hR
      subst hR
      have Hk := Lib.hid hk
      clear hk
      go_enter Try.func23, Try.ntmps23
      go_wp2_with fail
      refine (valid_any m _ b _ (H.out.below (al2 w _ _)) hl).mono ?_; rintro e w1 ⟨rfl, hb⟩; rw [Hp.out]
      obtain ⟨HX, HD, HB⟩ := two_boxes rfl rfl hb
      obtain ⟨x0, x1⟩ := HX.out.k2
      obtain ⟨d0, d1, d2⟩ := HD.out.k3
      clear hb
      go_wp2_with fail
      refine (hasBound_any m X Y C (by omega) _ _).mono ?_; rintro e w2 ⟨rfl, hb⟩; rw [Hk.out]
      have HB2 := Lib.hid (HB.out.trans (hb.mono HB.out.size))
      clear hb x0 x1 d0 d1 d2
      go_wp2_with fail
      go_ret
      exact Tells.of HB2.out
    | true =>
      have hk2 := hk
      rw [Bool.and_eq_true] at hk2
      unfold knB at hk2
      rw [decide_eq_true_iff, decide_eq_true_iff] at hk2
      obtain ⟨i, rfl⟩ : ∃ i : Nat, X = (i : Int) - 1 := ⟨(X + 1).toNat, by omega⟩
      obtain ⟨j, rfl⟩ : ∃ j : Nat, Y = (j : Int) - 1 := ⟨(Y + 1).toNat, by omega⟩
      have hi : i ≤ m := by omega
      have hj : j ≤ m := by omega
      rw [hk, Bool.true_and, show ((m : Int) + 1).toNat = m + 1 by omega, show ((i : Int) - 1 + 1).toNat = i by omega, show ((j : Int) - 1 + 1).toNat = j by omega] at hR
      have Hk := Lib.hid hk
      have HWI := Lib.hid (show IntKind.i64.wrap (i : Int) = (i : Int) from by rw [IntKind.wrap_i64]; omega)
      have HWJ := Lib.hid (show IntKind.i64.wrap (j : Int) = (j : Int) from by rw [IntKind.wrap_i64]; omega)
      have HR := Lib.hid hR
      clear hk hk2 hR
      go_enter Try.func23, Try.ntmps23
      go_wp2_with fail
      refine (valid_any m _ b _ (H.out.below (al2 w _ _)) hl).mono ?_; rintro e w1 ⟨rfl, hb⟩; rw [Hp.out]
      obtain ⟨HX, HD, HB⟩ := two_boxes rfl rfl hb
      obtain ⟨x0, x1⟩ := HX.out.k2
      obtain ⟨d0, d1, d2⟩ := HD.out.k3
      clear hb
      go_wp2_with fail
      refine (hasBound_any m _ _ C (by omega) _ _).mono ?_; rintro e w0 ⟨rfl, hb⟩; rw [Hk.out]
      have HB0 := Lib.hid (HB.out.trans (hb.mono HB.out.size))
      have HX0 := Lib.hid (HX.out.below hb)
      have HD0 := Lib.hid (HD.out.below hb)
      clear hb x0 x1 d0 d1 d2 HX HD HB
      obtain ⟨x0, x1⟩ := HX0.out.k2
      go_wp2_with fail
      refine (close_any m _ b _ (H.out.below HB0.out) hl).mono ?_; rintro e w2 ⟨v, rfl, ho, hb⟩
      obtain ⟨A3, c3, rfl⟩ := own_shapeG ho
      have HB2 := Lib.hid (HB0.out.trans (hb.mono HB0.out.size))
      have HD2 := Lib.hid (HD0.out.below hb)
      clear hb x0 x1 HX0 HD0 HB0
      cases hc : closeR (m : Int) b with
      | none =>
        rw [closeZ_none hc] at ho ⊢
        rw [hc] at HR
        have hr := HR.out
        dsimp only at hr
        subst hr
        have HB5 := Lib.hid (HB2.out.alloc HB2.out.size (.cells #[.int .i64 0, .slice A3 0 c3] 29))
        clear ho hc HD2 HR
        simp only [List.length_nil]
        go_wp2_with fail
        refine region_phi (n := 36) (Wd [(false, .bool false),
            (false, .bool true),
            (false, .bool true),
            (true, undef),
            (true, undef),
            (true, undef),
            (true, undef),
            (true, undef),
            (true, undef),
            (true, undef),
            (true, undef),
            (true, undef),
            (true, undef),
            (true, undef),
            (false, .bool true),
            (false, .bool true)]) (by kernel_rfl) (by kernel_rfl) rfl (fun _ _ _ _ h _ => h) (allOps_spec ?_) ?_
        · refine ⟨?_, ?_, ?_, ?_, ?_, ?_, ?_, ?_, ?_, ?_, ?_, ?_, ?_, ?_, ?_, ?_, trivial⟩
          · intro ac w' hb hp
            have b6 : ac.tmps[6]?.getD undef = .bool false := hb.at 6 (by kernel_rfl)
            exact wd_run rfl rfl (by simp [execOp, go_sem, Act.eval, b6])
          · exact fun ac w' hb hp => wd_run rfl rfl (by simp [execOp, go_sem, Act.eval, wd_get (hp ⟨0, .data⟩ (by simp) rfl _ rfl) rfl rfl])
          · exact fun ac w' hb hp => wd_run rfl rfl (by simp [execOp, go_sem, Act.eval, wd_get (hp ⟨1, .data⟩ (by simp) rfl _ rfl) rfl rfl])
          · intro ac w' hb hp
            have gg := wd_get (hp ⟨2, .guard⟩ (by simp) rfl _ rfl) rfl rfl
            exact wd_off rfl rfl (by simp [Region.wanted, yielded, bool_at gg])
          · intro ac w' hb hp
            have gg := wd_get (hp ⟨2, .guard⟩ (by simp) rfl _ rfl) rfl rfl
            exact wd_off rfl rfl (by simp [Region.wanted, yielded, bool_at gg])
          · intro ac w' hb hp
            have gg := wd_get (hp ⟨2, .guard⟩ (by simp) rfl _ rfl) rfl rfl
            exact wd_off rfl rfl (by simp [Region.wanted, yielded, bool_at gg])
          · intro ac w' hb hp
            have gg := wd_get (hp ⟨2, .guard⟩ (by simp) rfl _ rfl) rfl rfl
            exact wd_off rfl rfl (by simp [Region.wanted, yielded, bool_at gg])
          · intro ac w' hb hp
            have gg := wd_get (hp ⟨2, .guard⟩ (by simp) rfl _ rfl) rfl rfl
            exact wd_off rfl rfl (by simp [Region.wanted, yielded, bool_at gg])
          · intro ac w' hb hp
            have gg := wd_get (hp ⟨2, .guard⟩ (by simp) rfl _ rfl) rfl rfl
            exact wd_off rfl rfl (by simp [Region.wanted, yielded, bool_at gg])
          · intro ac w' hb hp
            have gg := wd_get (hp ⟨2, .guard⟩ (by simp) rfl _ rfl) rfl rfl
            exact wd_off rfl rfl (by simp [Region.wanted, yielded, bool_at gg])
          · intro ac w' hb hp
            have gg := wd_get (hp ⟨2, .guard⟩ (by simp) rfl _ rfl) rfl rfl
            exact wd_off rfl rfl (by simp [Region.wanted, yielded, bool_at gg])
          · intro ac w' hb hp
            have gg := wd_get (hp ⟨2, .guard⟩ (by simp) rfl _ rfl) rfl rfl
            exact wd_off rfl rfl (by simp [Region.wanted, yielded, bool_at gg])
          · intro ac w' hb hp
            have gg := wd_get (hp ⟨2, .guard⟩ (by simp) rfl _ rfl) rfl rfl
            exact wd_off rfl rfl (by simp [Region.wanted, yielded, bool_at gg])
          · intro ac w' hb hp
            have gg := wd_get (hp ⟨2, .guard⟩ (by simp) rfl _ rfl) rfl rfl
            exact wd_off rfl rfl (by simp [Region.wanted, yielded, bool_at gg])
          · exact fun ac w' hb hp => wd_run rfl rfl (by simp [execOp, go_sem, Act.eval, wd_get (hp ⟨2, .data⟩ (by simp) rfl _ rfl) rfl rfl])
          · exact fun ac w' hb hp => wd_run rfl rfl (by simp [execOp, go_sem, Act.eval, wd_get (hp ⟨14, .data⟩ (by simp) rfl _ rfl) rfl rfl])
        · intro vz w7 hext hall
          have HEXT := Lib.hid hext
          have e15 : vz 15 = .bool true := hall 15 (by decide) rfl
          clear hext hall
          simp only [putAll, Act.put, List.setIfInBounds_toArray, List.set_cons_zero, List.set_cons_succ, Nat.zero_add, Nat.reduceAdd, e15]
          clear e15
          have HB6 := Lib.hid (HB5.out.trans (HEXT.out.mono HB5.out.size))
          clear HEXT
          go_wp2_with fail
          go_ret
          exact Tells.of HB6.out
      | some cl =>
        rw [closeZ_some hc] at ho ⊢
        dsimp only at ho ⊢
        rw [hc] at HR
        have hcl := (closeR_nat HZ.out).symm.trans hc
        have HCL := Lib.hid (cls_len HZ.out hcl)
        have HS5 := Lib.hid ((Own.sl ho).below (al1 w2 (.cells #[.int .i64 (m : Int), .slice A3 cl.length c3] 29)))
        have HC5 := Lib.hid (Bx.new w2 29 #[.int .i64 (m : Int), .slice A3 cl.length c3])
        have HD5 := Lib.hid (HD2.out.alloc (.cells #[.int .i64 (m : Int), .slice A3 cl.length c3] 29))
        have HB5 := Lib.hid (HB2.out.alloc HB2.out.size (.cells #[.int .i64 (m : Int), .slice A3 cl.length c3] 29))
        have HBD := Lib.hid (fun w6 (h6 : Below (w2.alloc (.cells #[.int .i64 (m : Int), .slice A3 cl.length c3] 29)).heap.size (w2.alloc (.cells #[.int .i64 (m : Int), .slice A3 cl.length c3] 29)) w6) => bound_any m i j _ cl w6 (HS5.out.below h6) hm HCL.out hi hj)
        have hr := HR.out
        dsimp only at hr
        obtain ⟨x, hx⟩ : ∃ x, x = gt (m + 1) cl i j := ⟨_, rfl⟩
        rw [← hx] at hr HBD
        have HRR := Lib.hid hr
        clear ho hc hcl HD2 HR hx hr
        go_wp2_with fail
        refine region_phi (n := 36) (Wd [(false, .bool true),
            (false, .bool false),
            (false, .bool false),
            (false, .agg #[.int .i64 (m : Int), .slice A3 cl.length c3]),
            (false, .pointer (some ⟨w.heap.size + 1, 0, none⟩)),
            (false, .int .i64 ((i : Int) - 1)),
            (false, .int .i64 (i : Int)),
            (false, .pointer (some ⟨w.heap.size + 1, 1, none⟩)),
            (false, .int .i64 ((j : Int) - 1)),
            (false, .int .i64 (j : Int)),
            (false, .int .i64 x),
            (false, .pointer (some ⟨w.heap.size + 1, 2, none⟩)),
            (false, .int .i64 C),
            (false, .bool (decide (x ≤ C))),
            (false, .bool (decide (x ≤ C))),
            (false, .bool (decide (x ≤ C)))]) (by kernel_rfl) (by kernel_rfl) rfl (fun _ _ _ _ h _ => h) (allOps_spec ?_) ?_
        · refine ⟨?_, ?_, ?_, ?_, ?_, ?_, ?_, ?_, ?_, ?_, ?_, ?_, ?_, ?_, ?_, ?_, trivial⟩
          · intro ac w' hb hp
            have b6 : ac.tmps[6]?.getD undef = .bool true := hb.at 6 (by kernel_rfl)
            exact wd_run rfl rfl (by simp [execOp, go_sem, Act.eval, b6])
          · exact fun ac w' hb hp => wd_run rfl rfl (by simp [execOp, go_sem, Act.eval, wd_get (hp ⟨0, .data⟩ (by simp) rfl _ rfl) rfl rfl])
          · exact fun ac w' hb hp => wd_run rfl rfl (by simp [execOp, go_sem, Act.eval, wd_get (hp ⟨1, .data⟩ (by simp) rfl _ rfl) rfl rfl])
          · intro ac w' hb hp
            have gg := wd_get (hp ⟨2, .guard⟩ (by simp) rfl _ rfl) rfl rfl
            have b5 : ac.tmps[5]?.getD undef = .pointer (some ⟨w2.heap.size, 0, none⟩) := hb.at 5 (by kernel_rfl)
            have q0 := (HC5.out.below hb.ext).cell 0
            have q1 := (HC5.out.below hb.ext).cell 1
            exact wd_run rfl (by simp [Region.wanted, yielded, bool_at gg]) (by simp [execOp, go_sem, Act.eval, b5, q0, q1])
          · intro ac w' hb hp
            have gg := wd_get (hp ⟨2, .guard⟩ (by simp) rfl _ rfl) rfl rfl
            have b3 : ac.tmps[3]?.getD undef = .pointer (some ⟨w.heap.size + 1, 0, none⟩) := hb.at 3 (by kernel_rfl)
            exact wd_run rfl (by simp [Region.wanted, yielded, bool_at gg]) (by simp [execOp, go_sem, Act.eval, b3])
          · intro ac w' hb hp
            have gg := wd_get (hp ⟨2, .guard⟩ (by simp) rfl _ rfl) rfl rfl
            have q0 := (HD5.out.below hb.ext).cell 0
            exact wd_run rfl (by simp [Region.wanted, yielded, bool_at gg]) (by simp [execOp, go_sem, Act.eval, wd_get (hp ⟨4, .data⟩ (by simp) rfl _ rfl) rfl rfl, q0])
          · intro ac w' hb hp
            have gg := wd_get (hp ⟨2, .guard⟩ (by simp) rfl _ rfl) rfl rfl
            exact wd_run rfl (by simp [Region.wanted, yielded, bool_at gg]) (by simp [execOp, go_sem, Act.eval, wd_get (hp ⟨5, .data⟩ (by simp) rfl _ rfl) rfl rfl, HWI.out])
          · intro ac w' hb hp
            have gg := wd_get (hp ⟨2, .guard⟩ (by simp) rfl _ rfl) rfl rfl
            have b3 : ac.tmps[3]?.getD undef = .pointer (some ⟨w.heap.size + 1, 0, none⟩) := hb.at 3 (by kernel_rfl)
            exact wd_run rfl (by simp [Region.wanted, yielded, bool_at gg]) (by simp [execOp, go_sem, Act.eval, b3])
          · intro ac w' hb hp
            have gg := wd_get (hp ⟨2, .guard⟩ (by simp) rfl _ rfl) rfl rfl
            have q1 := (HD5.out.below hb.ext).cell 1
            exact wd_run rfl (by simp [Region.wanted, yielded, bool_at gg]) (by simp [execOp, go_sem, Act.eval, wd_get (hp ⟨7, .data⟩ (by simp) rfl _ rfl) rfl rfl, q1])
          · intro ac w' hb hp
            have gg := wd_get (hp ⟨2, .guard⟩ (by simp) rfl _ rfl) rfl rfl
            exact wd_run rfl (by simp [Region.wanted, yielded, bool_at gg]) (by simp [execOp, go_sem, Act.eval, wd_get (hp ⟨8, .data⟩ (by simp) rfl _ rfl) rfl rfl, HWJ.out])
          · intro ac w' hb hp
            have gg := wd_get (hp ⟨2, .guard⟩ (by simp) rfl _ rfl) rfl rfl
            refine step_call (f := 49) (args := #[.agg #[.int .i64 (m : Int), .slice A3 cl.length c3], .int .i64 (i : Int), .int .i64 (j : Int)]) (by simp [Region.wanted, yielded, bool_at gg]) (by simp [go_sem, wd_get (hp ⟨3, .data⟩ (by simp) rfl _ rfl) rfl rfl, wd_get (hp ⟨6, .data⟩ (by simp) rfl _ rfl) rfl rfl, wd_get (hp ⟨9, .data⟩ (by simp) rfl _ rfl) rfl rfl]) ?_
            exact (HBD.out w' hb.ext).mono fun e w9 h9 => ⟨_, h9.1, h9.2, wd_mk rfl fun _ => rfl⟩
          · intro ac w' hb hp
            have gg := wd_get (hp ⟨2, .guard⟩ (by simp) rfl _ rfl) rfl rfl
            have b3 : ac.tmps[3]?.getD undef = .pointer (some ⟨w.heap.size + 1, 0, none⟩) := hb.at 3 (by kernel_rfl)
            exact wd_run rfl (by simp [Region.wanted, yielded, bool_at gg]) (by simp [execOp, go_sem, Act.eval, b3])
          · intro ac w' hb hp
            have gg := wd_get (hp ⟨2, .guard⟩ (by simp) rfl _ rfl) rfl rfl
            have q2 := (HD5.out.below hb.ext).cell 2
            exact wd_run rfl (by simp [Region.wanted, yielded, bool_at gg]) (by simp [execOp, go_sem, Act.eval, wd_get (hp ⟨11, .data⟩ (by simp) rfl _ rfl) rfl rfl, q2])
          · intro ac w' hb hp
            have gg := wd_get (hp ⟨2, .guard⟩ (by simp) rfl _ rfl) rfl rfl
            exact wd_run rfl (by simp [Region.wanted, yielded, bool_at gg]) (by simp [execOp, go_sem, Act.eval, wd_get (hp ⟨10, .data⟩ (by simp) rfl _ rfl) rfl rfl, wd_get (hp ⟨12, .data⟩ (by simp) rfl _ rfl) rfl rfl])
          · exact fun ac w' hb hp => wd_run rfl rfl (by simp [execOp, go_sem, Act.eval, wd_get (hp ⟨2, .data⟩ (by simp) rfl _ rfl) rfl rfl, wd_get (hp ⟨13, .data⟩ (by simp) rfl _ rfl) rfl rfl])
          · exact fun ac w' hb hp => wd_run rfl rfl (by simp [execOp, go_sem, Act.eval, wd_get (hp ⟨14, .data⟩ (by simp) rfl _ rfl) rfl rfl])
        · intro vz w7 hext hall
          have HEXT := Lib.hid hext
          have e15 : vz 15 = .bool (decide (x ≤ C)) := hall 15 (by decide) rfl
          clear hext hall
          simp only [putAll, Act.put, List.setIfInBounds_toArray, List.set_cons_zero, List.set_cons_succ, Nat.zero_add, Nat.reduceAdd, e15]
          clear e15
          have HB6 := Lib.hid (HB5.out.trans (HEXT.out.mono HB5.out.size))
          clear HEXT
          go_wp2_with fail
          go_ret
          exact ⟨by rw [HRR.out]; rfl, HB6.out⟩
end Go.Proofs.Yteoddcamicmapaa
