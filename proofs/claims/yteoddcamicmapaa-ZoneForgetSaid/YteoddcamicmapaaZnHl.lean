/- Layer 13: ZoneHolds, the walk. -/
import Derived.Test.YteoddcamicmapaaZnRh
import Derived.Test.YteoddcamicmapaaZnSt
namespace Go.Proofs.Yteoddcamicmapaa
open Go.RowKit

theorem nm_zero (vs : List Int) : nmB vs 0 = 0 := rfl
theorem df_fu {vs : List Int} (h : ∀ x ∈ vs, InV x) (i j : Nat) : dfB vs i j ≤ fuB i j := by
  have h1 := nm_in h i
  have h2 := nm_in h j
  unfold dfB fuB
  by_cases e : i = j
  · subst e; rw [if_pos rfl]; omega
  · rw [if_neg e]
    unfold InV at h1 h2
    by_cases e2 : i = 0 ∨ j = 0
    · rw [if_pos e2]
      rcases e2 with rfl | rfl
      · rw [nm_zero]; omega
      · rw [nm_zero]; omega
    · rw [if_neg e2]; omega
theorem per_sat {n : Nat} {b vs : List Int} (h : ∀ x ∈ vs, InV x) : perB n (dfB vs) b = true ↔ Sat n (dm n b) (nmB vs) := by
  rw [perB_iff]
  constructor
  · intro hp i j hi hj
    have h1 := hp i j hi hj
    have h2 := df_fu h i j
    unfold dfB at h1 h2
    unfold dm; omega
  · intro hs i j hi hj
    have h1 := hs i j hi hj
    unfold dm at h1
    unfold dfB; omega
theorem holdsR_nat {m : Nat} {b vs : List Int} (hz : Zv (m + 1) b) : holdsR (m : Int) b vs = true ↔ vs.length = m ∧ (∀ x ∈ vs, InV x) ∧ Sat (m + 1) (dm (m + 1) b) (nmB vs) := by
  unfold holdsR
  rw [zv_val hz, Bool.true_and, Bool.and_eq_true, Bool.and_eq_true, decide_eq_true_iff, decide_eq_true_iff, show ((m : Int) + 1).toNat = m + 1 by omega]
  constructor
  · rintro ⟨h1, h2, h3⟩
    exact ⟨by omega, h2, (per_sat h2).1 h3⟩
  · rintro ⟨h1, h2, h3⟩
    exact ⟨by omega, h2, (per_sat h2).2 h3⟩
theorem holdsR_v {N : Int} {b vs : List Int} (h : holdsR N b vs = true) : zvB N b = true := by
  unfold holdsR at h
  rw [Bool.and_eq_true, Bool.and_eq_true] at h
  exact h.1.1
theorem closed_dm {n : Nat} {b c : List Int} (hz : Zv n b) (hc : cls n b = some c) (u : Nat → Int) : Sat n (dm n c) u ↔ Sat n (dm n b) u := by
  rw [← cls_sat hz hc]
  have hi := cls_is hz hc
  constructor
  · intro h i j h1 h2; have := h i j h1 h2; unfold dm at this; omega
  · intro h i j h1 h2; have := h i j h1 h2; have := hi.hi h1 h2; unfold dm; omega
theorem holds_some {N : Int} {b vs : List Int} (h : holdsR N b vs = true) : ∃ c, closeR N b = some c := by
  obtain ⟨m, rfl, _, _, hz⟩ := zv_nat (holdsR_v h)
  rw [closeR_nat hz]
  cases hc : cls (m + 1) b with
  | some c => exact ⟨c, rfl⟩
  | none => exact absurd ((holdsR_nat hz).1 h).2.2 ((cls_none hz).1 hc _)
theorem holds_closed {N : Int} {b c vs : List Int} (h : closeR N b = some c) : holdsR N c vs = holdsR N b vs ∧ ∃ m : Nat, N = m ∧ c.length = (m + 1) * (m + 1) := by
  have hzv : zvB N b = true := by
    cases hz : zvB N b with
    | true => rfl
    | false => rw [closeR_bad hz] at h; cases h
  obtain ⟨m, rfl, _, _, hz⟩ := zv_nat hzv
  rw [closeR_nat hz] at h
  have hvc := cls_zv hz h
  refine ⟨?_, m, rfl, hvc.len⟩
  rw [Bool.eq_iff_iff, holdsR_nat hvc, holdsR_nat hz, closed_dm hz h]
set_option maxRecDepth 20000 in
set_option maxHeartbeats 1000000 in
theorem zoneholds_walk (N : Int) (A : Option Addr) (c : Nat) (b : List Int) (A2 : Option Addr) (c2 : Nat) (vs : List Int) (w : World) (h1 : Sl iv w (.slice A b.length c) b) (hl1 : b.length ≤ 9223372036854775807) (h2 : Sl iv w (.slice A2 vs.length c2) vs) (hl2 : vs.length ≤ 17592186044000) :
    Calls Try.prog 7 #[.agg #[.int .i64 N, .slice A b.length c], .slice A2 vs.length c2] w (Tells w (.bool true)) := by
  have H1 := Lib.hid h1
  have H2 := Lib.hid h2
  have HL1 := Lib.hid hl1
  have HX0 := Lib.hid (Bx.new w 24 #[.int .i64 N, .slice A b.length c])
  have HA0 := Lib.hid (al1 w (.cells #[.int .i64 N, .slice A b.length c] 24))
  clear h1 h2 hl1
  go_enter Try.func7, Try.ntmps7
  go_wp2_with fail
  refine (awake_any _).mono ?_; rintro e w1 ⟨rfl, hb1⟩
  have HB1 := Lib.hid (HA0.out.trans (hb1.mono HA0.out.size))
  have HX1 := Lib.hid (HX0.out.below hb1)
  obtain ⟨x0, x1⟩ := HX1.out.k2
  clear hb1 HX0 HA0
  go_wp2_with fail
  refine (few_any N A c b _ HL1.out).mono ?_; rintro e w2 ⟨rfl, hb2⟩
  have HB2 := Lib.hid (HB1.out.trans (hb2.mono HB1.out.size))
  have HX2 := Lib.hid (HX1.out.below hb2)
  clear hb2 x0 x1 HB1 HX1
  cases hfa : fewB N b with
  | false =>
    clear hfa HX2
    go_wp2_with fail
    refine (awake_any _).mono ?_; rintro e w3 ⟨rfl, hb3⟩
    have HB3 := Lib.hid (HB2.out.trans (hb3.mono HB2.out.size))
    clear hb3 HB2
    go_wp2_with fail
    go_ret
    exact tells_true HB3.out
  | true =>
  clear hfa
  by_cases hv : 10 < vs.length
  · have hv1 : ¬ ((vs.length : Int) ≤ 10) := by omega
    clear hv HX2
    go_wp2_with fail
    refine (awake_any _).mono ?_; rintro e w3 ⟨rfl, hb3⟩
    have HB3 := Lib.hid (HB2.out.trans (hb3.mono HB2.out.size))
    clear hb3 HB2
    go_wp2_with fail
    go_ret
    exact tells_true HB3.out
  have hv1 : (vs.length : Int) ≤ 10 := by omega
  have HL2 := Lib.hid (show vs.length ≤ 9223372036854775807 by omega)
  have HI := Lib.hid (fun h => holds_some (N := N) (b := b) (vs := vs) h)
  have HC := Lib.hid (fun c h => holds_closed (N := N) (b := b) (c := c) (vs := vs) h)
  obtain ⟨I, hI⟩ : ∃ I, I = holdsR N b vs := ⟨_, rfl⟩
  rw [← hI] at HI HC
  have HQ := Lib.hid hI
  obtain ⟨x0, x1⟩ := HX2.out.k2
  clear hv hI hl2
  go_wp2_with fail
  refine (own_any N A b.length c _).mono ?_; rintro e w3 ⟨rfl, hb3⟩
  have HB3 := Lib.hid (HB2.out.trans (hb3.mono HB2.out.size))
  have HX3 := Lib.hid (HX2.out.below hb3)
  clear hb3 x0 x1 HB2 HX2
  go_wp2_with fail
  refine (holds_any N _ _ b vs _ (H1.out.below HB3.out) HL1.out (H2.out.below HB3.out) HL2.out).mono ?_; rintro e w4 ⟨rfl, hb4⟩
  rw [← HQ.out]
  have HB4 := Lib.hid (HB3.out.trans (hb4.mono HB3.out.size))
  have HX4 := Lib.hid (HX3.out.below hb4)
  obtain ⟨x0, x1⟩ := HX4.out.k2
  clear hb4 HB3 HX3
  go_wp2_with fail
  refine (own_any N A b.length c _).mono ?_; rintro e w5 ⟨rfl, hb5⟩
  have HB5 := Lib.hid (HB4.out.trans (hb5.mono HB4.out.size))
  have HX5 := Lib.hid (HX4.out.below hb5)
  clear hb5 x0 x1 HB4 HX4
  go_wp2_with fail
  refine (close_any N _ b _ (H1.out.below HB5.out) HL1.out).mono ?_; rintro e w6 ⟨v, rfl, ho, hb6⟩
  obtain ⟨A3, c3, rfl⟩ := own_shapeG ho
  have HB6 := Lib.hid (HB5.out.trans (hb6.mono HB5.out.size))
  have HX6 := Lib.hid (HX5.out.below hb6)
  clear hb6 HB5 HX5
  cases hc : closeR N b with
  | none =>
    rw [closeZ_none hc] at ho ⊢
    have hi : I = false := by
      cases h : I with
      | false => rfl
      | true =>
        obtain ⟨c, h2⟩ := HI.out h
        rw [hc] at h2; cases h2
    subst hi
    have HB7 := Lib.hid (HB6.out.alloc HB6.out.size (.cells #[.int .i64 0, .slice A3 0 c3] 29))
    have HX7 := Lib.hid (HX6.out.alloc (.cells #[.int .i64 0, .slice A3 0 c3] 29))
    obtain ⟨x0, x1⟩ := HX7.out.k2
    clear ho hc HI HC HB6 HX6
    simp only [List.length_nil]
    go_wp2_with fail
    refine (rholds_any N _ _ b vs _ (H1.out.below HB7.out) HL1.out (H2.out.below HB7.out) HL2.out).mono ?_; rintro e w8 ⟨rfl, hb8⟩
    rw [← HQ.out]
    have HB8 := Lib.hid (HB7.out.trans (hb8.mono HB7.out.size))
    clear hb8 x0 x1
    go_wp2_with fail
    go_ret
    exact tells_true HB8.out
  | some cl =>
    rw [closeZ_some hc] at ho ⊢
    dsimp only at ho ⊢
    obtain ⟨heq, k, hk, hcl⟩ := HC.out cl hc
    have HEQ := Lib.hid heq
    have HO := Lib.hid ho
    have HB7 := Lib.hid (HB6.out.alloc HB6.out.size (.cells #[.int .i64 N, .slice A3 cl.length c3] 29))
    have HX7 := Lib.hid (HX6.out.alloc (.cells #[.int .i64 N, .slice A3 cl.length c3] 29))
    have HN7 := Lib.hid (Bx.new w6 29 #[.int .i64 N, .slice A3 cl.length c3])
    have HS7 := Lib.hid ((Own.sl ho).below (al1 w6 (.cells #[.int .i64 N, .slice A3 cl.length c3] 29)))
    have HCLL := Lib.hid (show cl.length ≤ 9223372036854775807 from by
      have hzv : zvB N b = true := by
        cases hz : zvB N b with
        | true => rfl
        | false => rw [closeR_bad hz] at hc; cases hc
      obtain ⟨m, hm1, hm2, _, _⟩ := zv_nat hzv
      have : m = k := by omega
      subst this
      rw [hcl]; exact Nat.le_trans (Nat.mul_le_mul (by omega : m + 1 ≤ 25) (by omega : m + 1 ≤ 25)) (by decide))
    obtain ⟨x0, x1⟩ := HX7.out.k2
    clear ho hc HI HC HB6 HX6 heq hk hcl HO
    go_wp2_with fail
    refine (rholds_any N _ _ b vs _ (H1.out.below HB7.out) HL1.out (H2.out.below HB7.out) HL2.out).mono ?_; rintro e w8 ⟨rfl, hb8⟩
    rw [← HQ.out]
    have HB8 := Lib.hid (HB7.out.trans (hb8.mono HB7.out.size))
    have HN8 := Lib.hid (HN7.out.below hb8)
    have HS8 := Lib.hid (HS7.out.below hb8)
    obtain ⟨n0, n1⟩ := HN8.out.k2
    clear hb8 x0 x1 HB7 HX7 HN7 HS7
    cases I with
    | false =>
      go_wp2_with fail
      refine (holds_any N _ _ cl vs _ HS8.out HCLL.out (H2.out.below HB8.out) HL2.out).mono ?_; rintro e w9 ⟨rfl, hb9⟩
      rw [HEQ.out]
      have HB9 := Lib.hid (HB8.out.trans (hb9.mono HB8.out.size))
      clear hb9 n0 n1
      go_wp2_with fail
      go_ret
      exact tells_true HB9.out
    | true =>
      go_wp2_with fail
      refine (holds_any N _ _ cl vs _ HS8.out HCLL.out (H2.out.below HB8.out) HL2.out).mono ?_; rintro e w9 ⟨rfl, hb9⟩
      rw [HEQ.out]
      have HB9 := Lib.hid (HB8.out.trans (hb9.mono HB8.out.size))
      clear hb9 n0 n1
      go_wp2_with fail
      go_ret
      exact tells_true HB9.out
end Go.Proofs.Yteoddcamicmapaa
