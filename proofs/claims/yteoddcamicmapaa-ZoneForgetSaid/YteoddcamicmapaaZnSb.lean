/- Layer 13: alike and Sub of zone. -/
import Derived.Test.YteoddcamicmapaaZnCl
namespace Go.Proofs.Yteoddcamicmapaa
open Go.RowKit

/-- Whether two zones are valid, of the same variables. -/
def aliB (N : Int) (a : List Int) (M : Int) (b : List Int) : Bool := zvB N a && zvB M b && decide (N = M)
theorem two_boxes {w w' : World} {o p : Obj} {T U : TypeId} {cs ds : Array Value} (ho : o = .cells cs T) (hp : p = .cells ds U) (hb : Below ((w.alloc o).alloc p).heap.size ((w.alloc o).alloc p) w') :
    Hid (Bx w' w.heap.size T cs) ∧ Hid (Bx w' (w.heap.size + 1) U ds) ∧ Hid (Below w.heap.size w w') :=
  ⟨Bx.two ho hb, Bx.two' hp hb, (al2 w o p).trans (hb.mono (by simp; omega))⟩
set_option maxHeartbeats 400000 in
theorem alike_any (N M : Int) (v u : Value) (a b : List Int) (w : World) (h : Sl iv w v a) (hl : a.length ≤ 9223372036854775807) (h2 : Sl iv w u b) (hl2 : b.length ≤ 9223372036854775807) :
    Calls Try.prog 53 #[.agg #[.int .i64 N, v], .agg #[.int .i64 M, u]] w (Tells w (.bool (aliB N a M b))) := by
  obtain ⟨A, c, rfl⟩ := h.shape
  obtain ⟨A2, c2, rfl⟩ := h2.shape
  have H := Lib.hid h
  have H2 := Lib.hid h2
  clear h h2
  obtain ⟨R, hR⟩ : ∃ R, R = aliB N a M b := ⟨_, rfl⟩
  rw [← hR]
  unfold aliB at hR
  cases hp : zvB N a with
  | false =>
    rw [hp, Bool.false_and, Bool.false_and] at hR
    subst hR
    have Hp := Lib.hid hp
    clear hp
    go_enter Try.func53, Try.ntmps53
    go_wp2_with fail
    refine (valid_any N _ a _ (H.out.below (al2 w _ _)) hl).mono ?_; rintro e w1 ⟨rfl, hb⟩; rw [Hp.out]
    obtain ⟨-, -, HB⟩ := two_boxes rfl rfl hb
    clear hb
    go_wp2
    go_ret
    exact Tells.of HB.out
  | true =>
    cases hq : zvB M b with
    | false =>
      rw [hp, hq, Bool.true_and, Bool.false_and] at hR
      subst hR
      have Hp := Lib.hid hp
      have Hq := Lib.hid hq
      clear hp hq
      go_enter Try.func53, Try.ntmps53
      go_wp2_with fail
      refine (valid_any N _ a _ (H.out.below (al2 w _ _)) hl).mono ?_; rintro e w1 ⟨rfl, hb⟩; rw [Hp.out]
      obtain ⟨HX, HY, HB⟩ := two_boxes rfl rfl hb
      obtain ⟨x0, x1⟩ := HX.out.k2
      obtain ⟨y0, y1⟩ := HY.out.k2
      clear hb
      go_wp2_with fail
      refine (valid_any M _ b _ (H2.out.below HB.out) hl2).mono ?_; rintro e w2 ⟨rfl, hb2⟩; rw [Hq.out]
      have HB2 := Lib.hid (HB.out.trans (hb2.mono HB.out.size))
      clear hb2 x0 x1 y0 y1
      go_wp2
      go_ret
      exact Tells.of HB2.out
    | true =>
      rw [hp, hq, Bool.true_and, Bool.true_and] at hR
      have hN : (N == M) = R := by rw [hR]; rfl
      have Hp := Lib.hid hp
      have Hq := Lib.hid hq
      clear hp hq hR
      go_enter Try.func53, Try.ntmps53
      go_wp2_with fail
      refine (valid_any N _ a _ (H.out.below (al2 w _ _)) hl).mono ?_; rintro e w1 ⟨rfl, hb⟩; rw [Hp.out]
      obtain ⟨HX, HY, HB⟩ := two_boxes rfl rfl hb
      obtain ⟨x0, x1⟩ := HX.out.k2
      obtain ⟨y0, y1⟩ := HY.out.k2
      clear hb
      go_wp2_with fail
      refine (valid_any M _ b _ (H2.out.below HB.out) hl2).mono ?_; rintro e w2 ⟨rfl, hb2⟩; rw [Hq.out]
      have HB2 := Lib.hid (HB.out.trans (hb2.mono HB.out.size))
      obtain ⟨z0, z1⟩ := (HX.out.below hb2).k2
      obtain ⟨t0, t1⟩ := (HY.out.below hb2).k2
      clear hb2 x0 x1 y0 y1
      go_wp2
      go_ret
      exact Tells.of HB2.out
theorem aliB_nat {N M : Int} {a b : List Int} (h : aliB N a M b = true) : ∃ m : Nat, N = m ∧ M = m ∧ m ≤ 24 ∧ Zv (m + 1) a ∧ Zv (m + 1) b := by
  unfold aliB at h
  rw [Bool.and_eq_true, Bool.and_eq_true, decide_eq_true_iff] at h
  obtain ⟨⟨h1, h2⟩, rfl⟩ := h
  obtain ⟨m, rfl, hm, _, hz⟩ := zv_nat h1
  obtain ⟨k, hk, _, _, hz2⟩ := zv_nat h2
  obtain rfl : m = k := by omega
  exact ⟨m, rfl, rfl, hm, hz, hz2⟩
theorem ent_bound : Ent 49 := fun args w => enters_of Try.func49 (by kernel_rfl) rfl args w
theorem fn_bound (m : Nat) (v : Value) (b : List Int) (w0 : World) (h : Sl iv w0 v b) (hm : m ≤ 24) (hl : b.length = (m + 1) * (m + 1)) :
    FnAt 49 #[.agg #[.int .i64 (m : Int), v]] #[] w0 (m + 1) (gt (m + 1) b) := fun i j hi hj w hw => by
  have e : (#[.agg #[.int .i64 (m : Int), v]] : Array Value) ++ #[.int .i64 (i : Int), .int .i64 (j : Int)] ++ #[] = #[.agg #[.int .i64 (m : Int), v], .int .i64 (i : Int), .int .i64 (j : Int)] := by simp
  rw [e]
  exact bound_any m i j v b w (h.below hw) hm hl (by omega) (by omega)
/-- Sub. -/
noncomputable def subR (N : Int) (a : List Int) (M : Int) (b : List Int) : Bool := aliB N a M b && match closeR N a with | some c => perB (N + 1).toNat (gt (N + 1).toNat c) b | none => true
theorem cls_len {n : Nat} {b c : List Int} (h : Zv n b) (hc : cls n b = some c) : c.length = n * n := by
  have := cls_ok h
  rw [hc] at this
  exact this.1
set_option maxRecDepth 20000 in
set_option maxHeartbeats 400000 in
theorem sub_any (N M : Int) (v u : Value) (a b : List Int) (w : World) (h : Sl iv w v a) (hl : a.length ≤ 9223372036854775807) (h2 : Sl iv w u b) (hl2 : b.length ≤ 9223372036854775807) :
    Calls Try.prog 35 #[.agg #[.int .i64 N, v], .agg #[.int .i64 M, u]] w (Tells w (.bool (subR N a M b))) := by
  obtain ⟨A, c, rfl⟩ := h.shape
  obtain ⟨A2, c2, rfl⟩ := h2.shape
  have H := Lib.hid h
  have H2 := Lib.hid h2
  clear h h2
  obtain ⟨R, hR⟩ : ∃ R, R = subR N a M b := ⟨_, rfl⟩
  rw [← hR]
  unfold subR at hR
  cases hp : aliB N a M b with
  | false =>
    rw [hp, Bool.false_and] at hR
    subst hR
    have Hp := Lib.hid hp
    clear hp
    go_enter Try.func35, Try.ntmps35
    go_wp2_with fail
    refine (alike_any N M _ _ a b _ (H.out.below (al2 w _ _)) hl (H2.out.below (al2 w _ _)) hl2).mono ?_; rintro e w1 ⟨rfl, hb⟩; rw [Hp.out]
    obtain ⟨-, -, HB⟩ := two_boxes rfl rfl hb
    clear hb
    go_wp2
    go_ret
    exact Tells.of HB.out
  | true =>
    rw [hp, Bool.true_and] at hR
    obtain ⟨m, rfl, rfl, hm, hz1, hz2⟩ := aliB_nat hp
    rw [show ((m : Int) + 1).toNat = m + 1 by omega] at hR
    have Hp := Lib.hid hp
    have HZ1 := Lib.hid hz1
    have HZ2 := Lib.hid hz2
    have HR := Lib.hid hR
    clear hp hz1 hz2 hR
    go_enter Try.func35, Try.ntmps35
    go_wp2_with fail
    refine (alike_any m m _ _ a b _ (H.out.below (al2 w _ _)) hl (H2.out.below (al2 w _ _)) hl2).mono ?_; rintro e w1 ⟨rfl, hb⟩; rw [Hp.out]
    obtain ⟨HX, HY, HB⟩ := two_boxes rfl rfl hb
    obtain ⟨x0, x1⟩ := HX.out.k2
    clear hb
    go_wp2_with fail
    refine (close_any m _ a _ (H.out.below HB.out) hl).mono ?_; rintro e w2 ⟨v, rfl, ho, hb2⟩
    have HB2 := Lib.hid (HB.out.trans (hb2.mono HB.out.size))
    have HY2 := Lib.hid (HY.out.below hb2)
    cases hc : closeR (m : Int) a with
    | none =>
      rw [hc] at HR
      obtain rfl : R = true := HR.out
      rw [closeZ_none hc] at ho ⊢
      obtain ⟨A3, c3, rfl⟩ := own_shapeG ho
      clear ho hb2 hc x0 x1 HX HY
      go_wp2
      go_ret
      exact Tells.of (HB2.out.alloc HB2.out.size _)
    | some cl =>
      rw [hc] at HR
      rw [closeZ_some hc] at ho ⊢
      obtain ⟨A3, c3, rfl⟩ := own_shapeG ho
      have HCL := Lib.hid (cls_len HZ1.out ((closeR_nat HZ1.out).symm.trans hc))
      have HS := Lib.hid (show Sl iv (w2.alloc (.cells #[.int .i64 (m : Int), .slice A3 cl.length c3] 29)) _ cl from (Own.sl ho).below (al1 w2 _))
      have HF := Lib.hid (fn_bound m _ cl _ HS.out hm HCL.out)
      have HS2 := Lib.hid (show Sl iv (w2.alloc (.cells #[.int .i64 (m : Int), .slice A3 cl.length c3] 29)) _ b from (H2.out.below HB2.out).below (al1 w2 _))
      obtain ⟨y0, y1⟩ := (HY2.out.alloc (.cells #[.int .i64 (m : Int), .slice A3 cl.length c3] 29)).k2
      clear ho hb2 hc x0 x1 HX HY
      go_wp2_with fail
      refine (permits_any m _ b _ HS2.out hm HZ2.out.len _ _ _ _ ent_bound HF.out).mono ?_; rintro e w3 ⟨rfl, hb3⟩; rw [← HR.out]
      have HB3 := Lib.hid ((HB2.out.alloc HB2.out.size _).trans (hb3.mono (by have := HB2.out.size; simp; omega)))
      clear hb3
      go_wp2
      go_ret
      exact Tells.of HB3.out
end Go.Proofs.Yteoddcamicmapaa
