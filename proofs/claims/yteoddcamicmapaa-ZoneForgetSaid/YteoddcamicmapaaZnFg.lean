/- Layer 13: Forget. -/
import Derived.Test.YteoddcamicmapaaZnJo
import Derived.Test.YteoddcamicmapaaZnPj
namespace Go.Proofs.Yteoddcamicmapaa
open Go.RowKit

/-- What Forget makes of a bound of a closed zone. -/
def fgB (n : Nat) (c : List Int) (x i j : Nat) : Int := if i = x + 1 ∨ j = x + 1 then fuB i j else gt n c i j
theorem fg_zv {n x : Nat} {c : List Int} (hc : Zv n c) : Zv n (flat n (fgB n c x)) :=
  ⟨hc.pos, hc.few, flat_len _ _, fun i j hi hj => by
    rw [gt_flat _ hi hj]; unfold fgB
    have := hc.lo i j hi hj; have := fuB_lo i j
    split <;> omega, fun i j hi hj => by
    rw [gt_flat _ hi hj]; unfold fgB
    have := hc.hi i j hi hj; have := fuB_hi i j
    split <;> omega⟩
theorem fg_le {n x : Nat} {z c : List Int} (hz : Zv n z) (hc : cls n z = some c) {i j : Nat} (hi : i < n) (hj : j < n) : gt n c i j ≤ dm n (flat n (fgB n c x)) i j := by
  have h := (cls_is hz hc).hi hi hj
  unfold dm
  rw [gt_flat _ hi hj]
  unfold fgB
  split <;> omega
theorem fg_some {n x : Nat} {z c : List Int} (hz : Zv n z) (hc : cls n z = some c) : ∃ c2, cls n (flat n (fgB n c x)) = some c2 := by
  cases h : cls n (flat n (fgB n c x)) with
  | some c2 => exact ⟨c2, rfl⟩
  | none =>
    have hi := cls_is hz hc
    have h1 := (cls_none (fg_zv (cls_zv hz hc))).1 h _ (fun i j hi' hj' => Int.le_trans (hi.sat (j := 0) hz.pos i j hi' hj') (fg_le hz hc hi' hj'))
    exact h1.elim
/-- Forget. -/
noncomputable def frgZ (N : Int) (b : List Int) (X : Int) : (Int × List Int) × Value :=
  if zvB N b = true then
    if 0 ≤ X ∧ X < N then
      match closeR N b with
      | none => ((N, emL (N + 1).toNat), .int .i64 0)
      | some c => ((N, ((closeR N (flat (N + 1).toNat (fgB (N + 1).toNat c X.toNat))).getD [])), .int .i64 0)
    else ((0, []), .int .i64 2)
  else ((0, []), .int .i64 1)
theorem frgZ_bad {N : Int} {b : List Int} {X : Int} (h : zvB N b = false) : frgZ N b X = ((0, []), .int .i64 1) := by unfold frgZ; rw [h]; rfl
theorem frgZ_out {N : Int} {b : List Int} {X : Int} (h : zvB N b = true) (h2 : ¬ (0 ≤ X ∧ X < N)) : frgZ N b X = ((0, []), .int .i64 2) := by unfold frgZ; rw [if_pos h, if_neg h2]
theorem frgZ_none {m x : Nat} {b : List Int} (h : Zv (m + 1) b) (hx : x < m) (hc : cls (m + 1) b = none) : frgZ (m : Int) b (x : Int) = (((m : Int), emL (m + 1)), .int .i64 0) := by
  unfold frgZ; rw [if_pos (zv_val h), if_pos (by omega), closeR_nat h, hc, show ((m : Int) + 1).toNat = m + 1 by omega]
theorem frgZ_some {m x : Nat} {b c c2 : List Int} (h : Zv (m + 1) b) (hx : x < m) (hc : cls (m + 1) b = some c) (hc2 : cls (m + 1) (flat (m + 1) (fgB (m + 1) c x)) = some c2) : frgZ (m : Int) b (x : Int) = (((m : Int), c2), .int .i64 0) := by
  unfold frgZ; rw [if_pos (zv_val h), if_pos (by omega), closeR_nat h, hc, show ((m : Int) + 1).toNat = m + 1 by omega, Int.toNat_natCast]
  dsimp only
  rw [closeR_nat (fg_zv (cls_zv h hc)), hc2]; rfl
theorem ent_forget1 : Ent 59 := fun args w => enters_of Try.func59 (by kernel_rfl) rfl args w
set_option maxRecDepth 20000 in
set_option maxHeartbeats 400000 in
theorem forget1_any (m i j x xb cb : Nat) (u : Value) (c : List Int) (w : World) (h1 : Sl iv w u c) (hc : Bx w cb 29 #[.int .i64 (m : Int), u]) (hxb : Bx w xb 3 #[.int .i64 (x : Int)]) (hm : m ≤ 24) (hl1 : c.length = (m + 1) * (m + 1)) (hi : i ≤ m) (hj : j ≤ m) (hx : x < m) :
    Calls Try.prog 59 #[.int .i64 (i : Int), .int .i64 (j : Int), .pointer (some ⟨xb, 0, none⟩), .pointer (some ⟨cb, 0, none⟩)] w (Tells w (.int .i64 (fgB (m + 1) c x i j))) := by
  have HB1 := Lib.hid (show Calls Try.prog 49 #[.agg #[.int .i64 (m : Int), u], .int .i64 (i : Int), .int .i64 (j : Int)] w (Tells w (.int .i64 (gt (m + 1) c i j))) from bound_any m i j u c w h1 hm hl1 hi hj)
  have HF := Lib.hid (widest_any i j w (by omega) (by omega))
  have hW : IntKind.i64.wrap ((x : Int) + 1) = (x : Int) + 1 := by rw [IntKind.wrap_i64]; omega
  have q0 : w.cell? ⟨xb, 0, none⟩ = some (.int .i64 (x : Int)) := hxb.cell 0
  obtain ⟨c0, c1⟩ := hc.k2
  unfold fgB
  clear h1 hl1
  by_cases e1 : i = x + 1
  · subst e1
    rw [if_pos (.inl rfl)]
    have d1 : (((x + 1 : Nat) : Int) == (x : Int) + 1) = true := by rw [beq_iff_eq]; omega
    go_enter Try.func59, Try.ntmps59
    go_wp2_with fail
    refine HF.out.mono ?_; rintro e w5 ⟨rfl, k, rfl⟩
    go_wp2_with fail
    go_ret
    exact Tells.of (below_drewN w k)
  · have d1 : ((i : Int) == (x : Int) + 1) = false := by rw [beq_eq_false_iff_ne]; omega
    by_cases e2 : j = x + 1
    · subst e2
      rw [if_pos (.inr rfl)]
      have d2 : (((x + 1 : Nat) : Int) == (x : Int) + 1) = true := by rw [beq_iff_eq]; omega
      go_enter Try.func59, Try.ntmps59
      go_wp2_with fail
      refine HF.out.mono ?_; rintro e w5 ⟨rfl, k, rfl⟩
      go_wp2_with fail
      go_ret
      exact Tells.of (below_drewN w k)
    · rw [if_neg (by rintro (h | h) <;> contradiction)]
      have d2 : ((j : Int) == (x : Int) + 1) = false := by rw [beq_eq_false_iff_ne]; omega
      go_enter Try.func59, Try.ntmps59
      go_wp2_with fail
      refine HB1.out.mono ?_; rintro e w5 ⟨rfl, hb⟩
      go_wp2_with fail
      go_ret
      exact Tells.of hb
theorem fn_forget1 (m x xb cb : Nat) (u : Value) (c : List Int) (w0 : World) (h1 : Sl iv w0 u c) (hc : Bx w0 cb 29 #[.int .i64 (m : Int), u]) (hxb : Bx w0 xb 3 #[.int .i64 (x : Int)]) (hm : m ≤ 24) (hl1 : c.length = (m + 1) * (m + 1)) (hx : x < m) :
    FnAt 59 #[] #[.pointer (some ⟨xb, 0, none⟩), .pointer (some ⟨cb, 0, none⟩)] w0 (m + 1) (fgB (m + 1) c x) := fun i j hi hj w hw => by
  have e : (#[] : Array Value) ++ #[.int .i64 (i : Int), .int .i64 (j : Int)] ++ #[.pointer (some ⟨xb, 0, none⟩), .pointer (some ⟨cb, 0, none⟩)] = #[.int .i64 (i : Int), .int .i64 (j : Int), .pointer (some ⟨xb, 0, none⟩), .pointer (some ⟨cb, 0, none⟩)] := by simp
  rw [e]
  exact forget1_any m i j x xb cb u c w (h1.below hw) (hc.below hw) (hxb.below hw) hm hl1 (by omega) (by omega) hx
set_option maxRecDepth 20000 in
set_option maxHeartbeats 1000000 in
theorem forget_any (N X : Int) (v : Value) (b : List Int) (w : World) (h : Sl iv w v b) (hl : b.length ≤ 9223372036854775807) :
    Calls Try.prog 37 #[.agg #[.int .i64 N, v], .int .i64 X] w (ZP w (frgZ N b X)) := by
  obtain ⟨A, c, rfl⟩ := h.shape
  have H := Lib.hid h
  clear h
  cases hp : zvB N b with
  | false =>
    have HR := Lib.hid (frgZ_bad (X := X) hp)
    have Hp := Lib.hid hp
    clear hp
    go_enter Try.func37, Try.ntmps37
    go_wp2_with fail
    refine (valid_any N _ b _ (H.out.below (al3 w _ _ _)) hl).mono ?_; rintro e w1 ⟨rfl, hb⟩; rw [Hp.out]
    obtain ⟨-, -, HY, HB⟩ := three_boxes rfl rfl rfl hb
    obtain ⟨y0, y1⟩ := HY.out.k2
    obtain ⟨f0, f1⟩ := HY.out.f2
    clear hb
    go_wp2_with fail
    refine bodyPost_ret (v := .tuple #[.agg #[.int .i64 0, .slice none 0 0], .int .i64 1]) (bx_ret2 ((HY.out.set 0 _).set 1 _) Try.results37 _ rfl Try.underlying29 rfl (by kernel_rfl)) rfl ?_
    exact zp_zero HR.out (by omega) HB.out
  | true =>
    have Hp := Lib.hid hp
    obtain ⟨m, rfl, hm, -, hz⟩ := zv_nat hp
    have HZ := Lib.hid hz
    clear hz
    by_cases hx : 0 ≤ X ∧ X < (m : Int)
    · obtain ⟨x, rfl⟩ : ∃ q : Nat, X = q := ⟨X.toNat, by omega⟩
      have hxm : x < m := by omega
      have hxd : decide (0 ≤ (x : Int) ∧ (x : Int) < (m : Int)) = true := decide_eq_true hx
      have HXD := Lib.hid hxd
      clear hx hp hxd
      go_enter Try.func37, Try.ntmps37
      go_wp2_with fail
      refine (valid_any m _ b _ (H.out.below (al3 w _ _ _)) hl).mono ?_; rintro e w1 ⟨rfl, hb⟩; rw [Hp.out]
      obtain ⟨HX, HI, HY, HB⟩ := three_boxes rfl rfl rfl hb
      obtain ⟨x0, x1⟩ := HX.out.k2
      have i0 : w1.cell? ⟨w.heap.size + 1, 0, none⟩ = some (.int .i64 (x : Int)) := HI.out.cell 0
      clear hb
      go_wp2_with fail
      refine (hasVariable_any m x _ w1).mono ?_; rintro e w2 ⟨rfl, hb⟩; rw [HXD.out]
      have HX2 := Lib.hid (HX.out.below hb)
      have HI2 := Lib.hid (HI.out.below hb)
      have HY2 := Lib.hid (HY.out.below hb)
      have HB2 := Lib.hid (HB.out.trans (hb.mono HB.out.size))
      clear x0 x1 i0 hb HX HI HY HB
      obtain ⟨x0, x1⟩ := HX2.out.k2
      go_wp2_with fail
      refine (close_any m _ b _ (H.out.below HB2.out) hl).mono ?_; rintro e w3 ⟨v, rfl, ho, hb⟩
      have HX3 := Lib.hid (HX2.out.below hb)
      have HI3 := Lib.hid (HI2.out.below hb)
      have HY3 := Lib.hid (HY2.out.below hb)
      have HB3 := Lib.hid (HB2.out.trans (hb.mono HB2.out.size))
      clear x0 x1 hb HX2 HI2 HY2 HB2
      cases hc : cls (m + 1) b with
      | none =>
        have HR := Lib.hid (frgZ_none HZ.out hxm hc)
        rw [closeZ_none ((closeR_nat HZ.out).trans hc)] at ho ⊢
        obtain ⟨A3, c3, rfl⟩ := own_shapeG ho
        dsimp only at ho ⊢
        have HX4 := Lib.hid (HX3.out.alloc (.cells #[.int .i64 0, .slice A3 ([] : List Int).length c3] 29))
        have HY4 := Lib.hid (HY3.out.alloc (.cells #[.int .i64 0, .slice A3 ([] : List Int).length c3] 29))
        have HB4 := Lib.hid (HB3.out.alloc HB3.out.size (.cells #[.int .i64 0, .slice A3 ([] : List Int).length c3] 29))
        clear ho hc HX3 HI3 HY3 HB3
        simp only [List.length_nil] at HX4 HY4 HB4
        generalize hw4 : w3.alloc (.cells #[.int .i64 0, .slice A3 0 c3] 29) = w4 at *
        obtain ⟨x0, x1⟩ := HX4.out.k2
        go_wp2_with (rw [hw4])
        refine (empty_any m hm _).mono ?_; rintro e w6 ⟨v, rfl, ho, hb⟩
        obtain ⟨A6, c6, rfl⟩ := own_shapeG ho
        have HO6 := Lib.hid ho
        have HY6 := Lib.hid (HY4.out.below hb)
        have HB6 := Lib.hid (HB4.out.trans (hb.mono HB4.out.size))
        have hs4 := HY4.out.lt
        obtain ⟨y0, y1⟩ := HY6.out.k2
        obtain ⟨f0, f1⟩ := HY6.out.f2
        clear ho hb x0 x1
        go_wp2_with fail
        refine bodyPost_ret (v := .tuple #[.agg #[.int .i64 (m : Int), .slice A6 ((m + 1) * (m + 1)) c6], .int .i64 0]) (bx_ret2 ((HY6.out.set 0 _).set 1 _) Try.results37 _ rfl Try.underlying29 rfl (by kernel_rfl)) rfl ?_
        exact zp_fin HR.out (by omega) HB6.out HB4.out.size HO6.out (HO6.out.lt (.inl hs4))
      | some cl =>
        obtain ⟨c2, hc2⟩ := fg_some (x := x) HZ.out hc
        have HR := Lib.hid (frgZ_some HZ.out hxm hc hc2)
        have HCF := Lib.hid (closeZ_some ((closeR_nat (fg_zv (x := x) (cls_zv HZ.out hc))).trans hc2))
        have HCL := Lib.hid (cls_len HZ.out hc)
        rw [closeZ_some ((closeR_nat HZ.out).trans hc)] at ho ⊢
        obtain ⟨A3, c3, rfl⟩ := own_shapeG ho
        dsimp only at ho ⊢
        have HX4 := Lib.hid (HX3.out.alloc (.cells #[.int .i64 (m : Int), .slice A3 cl.length c3] 29))
        have HI4 := Lib.hid (HI3.out.alloc (.cells #[.int .i64 (m : Int), .slice A3 cl.length c3] 29))
        have HY4 := Lib.hid (HY3.out.alloc (.cells #[.int .i64 (m : Int), .slice A3 cl.length c3] 29))
        have HC4 := Lib.hid (Bx.new w3 29 #[.int .i64 (m : Int), .slice A3 cl.length c3])
        have HB4 := Lib.hid (HB3.out.alloc HB3.out.size (.cells #[.int .i64 (m : Int), .slice A3 cl.length c3] 29))
        have HO4 := Lib.hid (show Own (w3.alloc (.cells #[.int .i64 (m : Int), .slice A3 cl.length c3] 29)) _ _ _ _ from Own.keep ho (al1 w3 _))
        clear ho hc hc2 HX3 HI3 HY3 HB3
        obtain ⟨x0, x1⟩ := HX4.out.k2
        go_wp2_with fail
        refine (zoneOf_any m hm _ _ _ (fgB (m + 1) cl x) _ ent_forget1 (fn_forget1 m x _ _ _ cl _ (Own.sl HO4.out) HC4.out HI4.out hm HCL.out hxm)).mono ?_; rintro e w6 ⟨v, rfl, ho, hb⟩
        obtain ⟨A6, c6, rfl⟩ := own_shapeG ho
        have HO6 := Lib.hid (show Own w6 _ _ _ _ from ho)
        have HY6 := Lib.hid (HY4.out.below hb)
        have HB6 := Lib.hid (HB4.out.trans (hb.mono HB4.out.size))
        have hs6 := HY6.out.lt
        clear ho hb x0 x1 HX4 HI4 HY4 HC4 HB4 HO4
        go_wp2_with fail
        refine (close_any m _ _ w6 (Own.sl HO6.out) (by rw [flat_len]; exact Nat.le_trans (Nat.mul_le_mul (by omega : m + 1 ≤ 25) (by omega : m + 1 ≤ 25)) (by decide))).mono ?_; rintro e w7 ⟨v, rfl, ho, hb⟩
        rw [HCF.out] at ho ⊢
        obtain ⟨A7, c7, rfl⟩ := own_shapeG ho
        dsimp only at ho ⊢
        have HY8 := Lib.hid ((HY6.out.below hb).alloc (.cells #[.int .i64 (m : Int), .slice A7 c2.length c7] 29))
        have HB8 := Lib.hid ((HB6.out.trans (hb.mono HB6.out.size)).alloc (HB6.out.trans (hb.mono HB6.out.size)).size (.cells #[.int .i64 (m : Int), .slice A7 c2.length c7] 29))
        have HO8 := Lib.hid (show Own (w7.alloc (.cells #[.int .i64 (m : Int), .slice A7 c2.length c7] 29)) _ _ _ _ from Own.keep ho (al1 w7 _))
        have HC8 := Lib.hid (Bx.new w7 29 #[.int .i64 (m : Int), .slice A7 c2.length c7])
        clear ho hb HY6 HO6
        obtain ⟨x0, x1⟩ := HC8.out.k2
        obtain ⟨y0, y1⟩ := HY8.out.k2
        obtain ⟨f0, f1⟩ := HY8.out.f2
        go_wp2_with fail
        refine bodyPost_ret (v := .tuple #[.agg #[.int .i64 (m : Int), .slice A7 c2.length c7], .int .i64 0]) (bx_ret2 ((HY8.out.set 0 _).set 1 _) Try.results37 _ rfl Try.underlying29 rfl (by kernel_rfl)) rfl ?_
        exact zp_fin HR.out (by omega) HB8.out HB6.out.size HO8.out (HO8.out.lt (.inl hs6))
    · have HR := Lib.hid (frgZ_out hp hx)
      have HXD := Lib.hid (show decide (0 ≤ X ∧ X < (m : Int)) = false from decide_eq_false hx)
      clear hx hp
      go_enter Try.func37, Try.ntmps37
      go_wp2_with fail
      refine (valid_any m _ b _ (H.out.below (al3 w _ _ _)) hl).mono ?_; rintro e w1 ⟨rfl, hb⟩; rw [Hp.out]
      obtain ⟨HX, HI, HY, HB⟩ := three_boxes rfl rfl rfl hb
      obtain ⟨x0, x1⟩ := HX.out.k2
      have i0 : w1.cell? ⟨w.heap.size + 1, 0, none⟩ = some (.int .i64 X) := HI.out.cell 0
      clear hb
      go_wp2_with fail
      refine (hasVariable_any m X _ w1).mono ?_; rintro e w2 ⟨rfl, hb⟩; rw [HXD.out]
      have HY2 := Lib.hid (HY.out.below hb)
      have HB2 := Lib.hid (HB.out.trans (hb.mono HB.out.size))
      obtain ⟨y0, y1⟩ := HY2.out.k2
      obtain ⟨f0, f1⟩ := HY2.out.f2
      clear x0 x1 i0 hb HX HI HY HB
      go_wp2_with fail
      refine bodyPost_ret (v := .tuple #[.agg #[.int .i64 0, .slice none 0 0], .int .i64 2]) (bx_ret2 ((HY2.out.set 0 _).set 1 _) Try.results37 _ rfl Try.underlying29 rfl (by kernel_rfl)) rfl ?_
      exact zp_zero HR.out (by omega) HB2.out
end Go.Proofs.Yteoddcamicmapaa
