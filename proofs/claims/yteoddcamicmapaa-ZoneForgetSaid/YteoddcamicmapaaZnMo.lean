/- Layer 13: Model of zone. -/
import Derived.Test.YteoddcamicmapaaZnWi
namespace Go.Proofs.Yteoddcamicmapaa
open Go.RowKit

/-- The least number that i of the numbers l permit for j. -/
def lsB (C : Nat → Nat → Int) (l : List Int) (j : Nat) : Nat → Int
  | 0 => -10000
  | i + 1 => max (lsB C l j i) (l.getD i 0 - C i j)
/-- The least numbers, one after the other. -/
def mdL (C : Nat → Nat → Int) : Nat → List Int
  | 0 => [0]
  | k + 1 => mdL C k ++ [lsB C (mdL C k) (k + 1) (k + 1)]
def mdV (C : Nat → Nat → Int) (k : Nat) : Int := (mdL C k).getD k 0
theorem mdL_len (C : Nat → Nat → Int) : ∀ k, (mdL C k).length = k + 1
  | 0 => rfl
  | k + 1 => by rw [mdL, List.length_append, mdL_len C k]; rfl
theorem mdL_get (C : Nat → Nat → Int) : ∀ k i, i ≤ k → (mdL C k).getD i 0 = mdV C i
  | 0, i, h => by obtain rfl : i = 0 := by omega
                  rfl
  | k + 1, i, h => by
    by_cases e : i = k + 1
    · subst e; rfl
    · have hl := mdL_len C k
      rw [mdL, List.getD_eq_getElem?_getD, List.getElem?_append_left (by omega), ← List.getD_eq_getElem?_getD]
      exact mdL_get C k i (by omega)
theorem mdV_zero (C : Nat → Nat → Int) : mdV C 0 = 0 := rfl
theorem mdV_succ (C : Nat → Nat → Int) (k : Nat) : mdV C (k + 1) = lsB C (mdL C k) (k + 1) (k + 1) := by
  have hl := mdL_len C k
  unfold mdV
  rw [mdL, List.getD_eq_getElem?_getD, List.getElem?_append_right (by omega), hl, Nat.sub_self]; rfl
theorem lsB_lo (C : Nat → Nat → Int) (l : List Int) (j : Nat) : ∀ q, -10000 ≤ lsB C l j q
  | 0 => Int.le_refl _
  | q + 1 => by have := lsB_lo C l j q; rw [lsB]; omega
theorem lsB_ge (C : Nat → Nat → Int) (l : List Int) (j : Nat) : ∀ q i, i < q → l.getD i 0 - C i j ≤ lsB C l j q
  | 0, i, h => by omega
  | q + 1, i, h => by
    rw [lsB]
    by_cases e : i = q
    · subst e; omega
    · have := lsB_ge C l j q i (by omega); omega
theorem lsB_eq (C : Nat → Nat → Int) (l : List Int) (j : Nat) : ∀ q, lsB C l j q = -10000 ∨ ∃ i, i < q ∧ lsB C l j q = l.getD i 0 - C i j
  | 0 => .inl rfl
  | q + 1 => by
    rw [lsB]
    by_cases e : lsB C l j q ≤ l.getD q 0 - C q j
    · exact .inr ⟨q, by omega, by omega⟩
    · rcases lsB_eq C l j q with h | ⟨i, h1, h2⟩
      · exact .inl (by omega)
      · exact .inr ⟨i, by omega, by omega⟩
section
variable {n : Nat} {b : List Int} {C : Nat → Nat → Int}
theorem mdV_ge (C : Nat → Nat → Int) {i k : Nat} (h : i < k) : mdV C i - C i k ≤ mdV C k := by
  obtain ⟨q, rfl⟩ : ∃ q, k = q + 1 := ⟨k - 1, by omega⟩
  have := lsB_ge C (mdL C q) (q + 1) (q + 1) i h
  rw [mdL_get C q i (by omega), ← mdV_succ] at this
  exact this
theorem mdV_eq (h : IsCl n (dm n b) C) {k : Nat} (hk : k + 1 < n) : ∃ i, i ≤ k ∧ mdV C (k + 1) = mdV C i - C i (k + 1) := by
  rcases lsB_eq C (mdL C k) (k + 1) (k + 1) with h1 | ⟨i, h1, h2⟩
  · rw [← mdV_succ] at h1
    have h2 := mdV_ge C (i := 0) (k := k + 1) (by omega)
    have h3 := h.hi (i := 0) (j := k + 1) (by omega) hk
    have h4 := fuB_right (k + 1)
    rw [mdV_zero] at h2
    exact ⟨0, by omega, by rw [mdV_zero]; omega⟩
  · rw [← mdV_succ, mdL_get C k i (by omega)] at h2
    exact ⟨i, by omega, h2⟩
/-- The least numbers keep the bounds. -/
theorem mdV_sat (h : IsCl n (dm n b) C) : ∀ k, k < n → ∀ i j, i ≤ k → j ≤ k → mdV C i - mdV C j ≤ C i j := by
  intro k
  induction k with
  | zero =>
    intro hk i j hi hj
    obtain rfl : i = 0 := by omega
    obtain rfl : j = 0 := by omega
    have := h.dg 0 hk
    omega
  | succ k ih =>
    intro hk i j hi hj
    obtain ⟨q, hq, he⟩ := mdV_eq h hk
    by_cases ei : i = k + 1
    · by_cases ej : j = k + 1
      · subst ei ej
        have := h.dg (k + 1) hk
        omega
      · subst ei
        have h1 := ih (by omega) q j hq (by omega)
        have h2 := h.tr q j (k + 1) (by omega) (by omega) hk
        omega
    · by_cases ej : j = k + 1
      · subst ej
        have := mdV_ge C (i := i) (k := k + 1) (by omega)
        omega
      · exact ih (by omega) i j (by omega) (by omega)
theorem mdV_Sat (h : IsCl n (dm n b) C) (hn : 1 ≤ n) : Sat n C (mdV C) := fun i j hi hj => mdV_sat h (n - 1) (by omega) i j (by omega) (by omega)
theorem mdV_bnd (h : IsCl n (dm n b) C) {k : Nat} (hk : k < n) : -10000 ≤ mdV C k ∧ mdV C k ≤ 10000 := by
  have h1 := mdV_sat h k hk k 0 (by omega) (by omega)
  have h2 := mdV_sat h k hk 0 k (by omega) (by omega)
  have h3 := h.hi hk (show 0 < n by omega)
  have h4 := h.hi (show 0 < n by omega) hk
  have h5 := fuB_left k; have h6 := fuB_right k
  rw [mdV_zero] at h1 h2
  omega
/-- No other numbers are less. -/
theorem mdV_least (h : IsCl n (dm n b) C) {u : Nat → Int} (hu : Sat n C u) (hu0 : u 0 = 0) {k : Nat} (hk : k < n) (he : ∀ i, i < k → u i = mdV C i) : mdV C k ≤ u k := by
  cases k with
  | zero => rw [mdV_zero, hu0]; exact Int.le_refl _
  | succ k =>
    obtain ⟨q, hq, e⟩ := mdV_eq h hk
    have h1 := hu q (k + 1) (by omega) hk
    rw [he q (by omega)] at h1
    omega
end
/-- Model. -/
noncomputable def modR (N : Int) (b : List Int) : List Int × Bool := match closeR N b with | some c => ((mdL (gt (N + 1).toNat c) N.toNat).drop 1, true) | none => ([], false)
def MoP (w : World) (R : List Int × Bool) (e : Ending) (w' : World) : Prop := ∃ v, e = .returned (.tuple #[v, .bool R.2]) ∧ Sl iv w' v R.1 ∧ Below w.heap.size w w'
theorem sl_drop {w : World} {B g n c : Nat} {l : List Int} (h : Own w B (.slice (some ⟨g, 0, none⟩) (n + 1) c) (n + 1) l) : Sl iv w (.slice (some ⟨g, 1, none⟩) n (c - 1)) (l.drop 1) := by
  have hl : l.length = n + 1 := by have := h.1; simpa using this
  have hl2 : (l.drop 1).length = n := by rw [List.length_drop]; omega
  have hc : n + 1 ≤ c := by
    rcases h.2 with ⟨h1, _⟩ | ⟨g', cap, cur, h1, _, _, h2, _⟩
    · cases h1
    · simp only [Value.slice.injEq] at h1; omega
  refine .inr ⟨⟨g, 1, none⟩, c - 1, by rw [hl2], by rw [hl2]; omega, fun j x hj => ?_⟩
  rw [List.getElem?_drop] at hj
  have hlt : 1 + j < l.length := (List.getElem?_eq_some_iff.1 hj).1
  have h1 := own_at h (1 + j) hlt
  rw [List.getElem?_eq_getElem hlt] at hj
  cases hj
  rw [show (⟨g, 1, none⟩ : Addr).add j = ⟨g, 1 + j, none⟩ by unfold Addr.add; split <;> simp_all, h1]; rfl
set_option maxRecDepth 20000 in
set_option maxHeartbeats 1000000 in
theorem model_any (N : Int) (v : Value) (b : List Int) (w : World) (h : Sl iv w v b) (hl : b.length ≤ 9223372036854775807) :
    Calls Try.prog 27 #[.agg #[.int .i64 N, v]] w (MoP w (modR N b)) := by
  obtain ⟨A, c, rfl⟩ := h.shape
  have H := Lib.hid h
  clear h
  cases hc : closeR N b with
  | none =>
    have HR := Lib.hid (show modR N b = ([], false) by unfold modR; rw [hc])
    have HC := Lib.hid (closeZ_none hc)
    clear hc
    go_enter Try.func27, Try.ntmps27
    go_wp2_with fail
    refine (close_any N _ b _ (H.out.below (al1 w _)) hl).mono ?_; rintro e w2 ⟨v, rfl, ho, hb2⟩
    rw [HC.out] at ho ⊢
    have HB := Lib.hid ((al1 w (.cells #[.int .i64 N, .slice A b.length c] 29)).trans (hb2.mono (by simp)))
    obtain ⟨A3, c3, rfl⟩ := own_shapeG ho
    clear ho hb2
    go_wp2_with fail
    go_ret2
    exact ⟨_, by rw [HR.out]; rfl, by rw [HR.out]; exact Sl.nil, HB.out.alloc HB.out.size _⟩
  | some cl =>
    have hzv : zvB N b = true := by
      cases h : zvB N b with
      | true => rfl
      | false => rw [closeR_bad h] at hc; cases hc
    obtain ⟨m, rfl, hm, -, hz⟩ := zv_nat hzv
    have HC := Lib.hid (closeZ_some hc)
    have hcl := (closeR_nat hz).symm.trans hc
    have HIS := Lib.hid (cls_is hz hcl)
    have HCL := Lib.hid (cls_len hz hcl)
    have HR := Lib.hid (show modR (m : Int) b = ((mdL (gt (m + 1) cl) m).drop 1, true) by unfold modR; rw [hc, show ((m : Int) + 1).toNat = m + 1 by omega, Int.toNat_natCast])
    have HX0 := Lib.hid (Bx.new w 29 #[.int .i64 (m : Int), .slice A b.length c])
    clear hc hzv hz hcl
    go_enter Try.func27, Try.ntmps27
    go_wp2_with fail
    refine (close_any m _ b _ (H.out.below (al1 w _)) hl).mono ?_; rintro e w2 ⟨v, rfl, ho, hb2⟩
    rw [HC.out] at ho ⊢
    have HB := Lib.hid ((al1 w (.cells #[.int .i64 (m : Int), .slice A b.length c] 29)).trans (hb2.mono (by simp)))
    obtain ⟨A3, c3, rfl⟩ := own_shapeG ho
    dsimp only at ho ⊢
    have HS4 := Lib.hid (show Sl iv (w2.alloc (.cells #[.int .i64 (m : Int), .slice A3 cl.length c3] 29)) _ cl from (Own.sl ho).below (al1 w2 _))
    have HC4 := Lib.hid (Bx.new w2 29 #[.int .i64 (m : Int), .slice A3 cl.length c3])
    have HX4 := Lib.hid ((HX0.out.below hb2).alloc (.cells #[.int .i64 (m : Int), .slice A3 cl.length c3] 29))
    have HB4 := Lib.hid (HB.out.alloc HB.out.size (.cells #[.int .i64 (m : Int), .slice A3 cl.length c3] 29))
    have HSZ := Lib.hid (show w.heap.size < w2.heap.size from (HX0.out.below hb2).lt)
    clear ho hb2 HX0 HB
    go_wp2_with fail
    obtain ⟨w4, hw4⟩ : ∃ w4, w4 = w2.alloc (.cells #[.int .i64 (m : Int), .slice A3 cl.length c3] 29) := ⟨_, rfl⟩
    rw [← hw4] at HS4 HC4 HX4 HB4 ⊢
    have HR0 := Lib.hid (show Own (w4.alloc (.cells #[.int .i64 0] 3)) w4.heap.size (.slice (some ⟨w4.heap.size, 0, none⟩) 1 1) 1 [0] from own_litS w4 _ _ 1 _ _ rfl rfl (by decide) rfl)
    have HZ4 := Lib.hid (show w4.heap.size = w2.heap.size + 1 by rw [hw4]; simp)
    have HB60 := Lib.hid (al1 w4 (.cells #[.int .i64 0] 3))
    clear hw4
    rw [← HZ4.out]
    generalize w4.alloc (.cells #[.int .i64 0] 3) = w5 at *
    go_loopw [6, 7] (fun vv j wr => ∃ k : Nat, k ≤ m ∧ j = .int .i64 ((k + 1 : Nat) : Int) ∧ Hid (Own wr w4.heap.size vv (k + 1) (mdL (gt (m + 1) cl) k)) ∧ Hid (Below w4.heap.size w4 wr)) (fun _ j _ => m + 1 - (intOf j).toNat)
    case atStart => exact ⟨0, Nat.zero_le _, rfl, HR0, HB60⟩
    case round =>
      clear HR0 HB60
      obtain ⟨k, hk, rfl, HOW, HB6⟩ := hrel
      obtain ⟨x0, x1⟩ := (HX4.out.below HB6.out).k2
      obtain ⟨g, cap, rfl, hg1, hg2, hcap⟩ := own_shape HOW.out (by omega)
      by_cases hlt : k + 1 ≤ m
      · have hk1 : ((k + 1 : Nat) : Int) ≤ (m : Int) := by omega
        have dk : decide (((k : Int) + 1) ≤ (m : Int)) = true := decide_eq_true (by omega)
        go_wp2_with fail
        clear x0 x1
        go_loopw [8, 27] (fun a i wr => ∃ q : Nat, q ≤ k + 1 ∧ i = .int .i64 (q : Int) ∧ a = .int .i64 (lsB (gt (m + 1) cl) (mdL (gt (m + 1) cl) k) (k + 1) q) ∧ Hid (Own wr w4.heap.size (.slice (some ⟨g, 0, none⟩) (k + 1) cap) (k + 1) (mdL (gt (m + 1) cl) k)) ∧ Hid (Below w4.heap.size w4 wr)) (fun _ i _ => k + 1 - (intOf i).toNat)
        case atStart => exact ⟨0, Nat.zero_le _, rfl, rfl, HOW, HB6⟩
        case round =>
          clear HOW HB6
          obtain ⟨q, hq, rfl, rfl, HOW, HB6⟩ := hrel
          by_cases hql : q < k + 1
          · have hcell := own_at HOW.out q (by rw [mdL_len]; exact hql)
            have hget : (mdL (gt (m + 1) cl) k)[q]'(by rw [mdL_len]; exact hql) = mdV (gt (m + 1) cl) q := by
              rw [← mdL_get _ k q (by omega), List.getD_eq_getElem?_getD, List.getElem?_eq_getElem (by rw [mdL_len]; exact hql)]; rfl
            rw [hget] at hcell
            have HST := Lib.hid (show lsB (gt (m + 1) cl) (mdL (gt (m + 1) cl) k) (k + 1) (q + 1) = max (lsB (gt (m + 1) cl) (mdL (gt (m + 1) cl) k) (k + 1) q) (mdV (gt (m + 1) cl) q - gt (m + 1) cl q (k + 1)) from by rw [lsB, mdL_get _ k q (by omega)])
            have hvb := mdV_bnd HIS.out (k := q) (by omega)
            have hcb1 := HIS.out.hi (i := q) (j := k + 1) (by omega) (by omega)
            have hcb2 := HIS.out.lo (i := q) (j := k + 1) (by omega) (by omega)
            have hf1 := fuB_hi q (k + 1); have hf2 := fuB_hi (k + 1) q
            have HBD := Lib.hid (show Calls Try.prog 49 #[.agg #[.int .i64 (m : Int), .slice A3 cl.length c3], .int .i64 (q : Int), .int .i64 ((k : Int) + 1)] wr (Tells wr (.int .i64 (gt (m + 1) cl q (k + 1)))) from
              bound_any m q (k + 1) _ cl wr (HS4.out.below HB6.out) hm HCL.out (by omega) (by omega))
            obtain ⟨c0, c1⟩ := (HC4.out.below HB6.out).k2
            generalize hy : gt (m + 1) cl q (k + 1) = y at *
            generalize hvv : mdV (gt (m + 1) cl) q = vq at *
            generalize hls : lsB (gt (m + 1) cl) (mdL (gt (m + 1) cl) k) (k + 1) q = lq at *
            have hy1 : -20000 ≤ y ∧ y ≤ 20000 := by omega
            have HY := Lib.hid hy1
            have HV := Lib.hid hvb
            clear hcb1 hcb2 hf1 hf2 hget hy hvv hls
            go_wp2_with fail
            refine HBD.out.mono ?_; rintro e w6 ⟨rfl, hb6⟩
            have HOW2 := Lib.hid (show Own w6 _ _ _ _ from HOW.out.keep hb6)
            have HB62 := Lib.hid (HB6.out.trans (hb6.mono HB6.out.size))
            clear hb6 c0 c1 hcell HBD HOW HB6
            go_wp2_with fail
            all_goals
              go_roundw
              case rel => exact ⟨_, _, _, _, ⟨q + 1, by omega, rfl, by rw [HST.out]; congr 1; omega⟩, rfl, rfl, rfl, by go_num⟩
              case measure => simp [intOf]; omega
          · obtain rfl : q = k + 1 := by omega
            have HNX := Lib.hid (show mdL (gt (m + 1) cl) (k + 1) = mdL (gt (m + 1) cl) k ++ [lsB (gt (m + 1) cl) (mdL (gt (m + 1) cl) k) (k + 1) (k + 1)] from rfl)
            generalize lsB (gt (m + 1) cl) (mdL (gt (m + 1) cl) k) (k + 1) (k + 1) = lq at *
            have hown : wr.ownsRow w4.heap.size 3 1 (.slice (some ⟨g, 0, none⟩) (k + 1) cap) (k + 1) ((mdL (gt (m + 1) cl) k).map iv) := HOW.out
            have hsz := HB6.out.size
            go_wp2_with (at_builtin; refine app1S rfl _ _ 22 rfl 3 (.int .i64 0) 8 info_int rfl (by kernel_rfl) w4.heap.size _ _ _ rfl hown (.int .i64 lq) rfl rfl (by omega) (by omega) hsz ?_; intro v' w7 hown2 hfr)
            have HOW2 := Lib.hid (show Own w7 w4.heap.size v' (k + 1 + 1) (mdL (gt (m + 1) cl) (k + 1)) from by rw [HNX.out]; unfold Own; rw [List.map_append]; exact hown2)
            have HB62 := Lib.hid (HB6.out.trans (hfr.below hsz))
            clear hown hown2 hfr HOW HB6 hsz
            go_wp2_with fail
            go_roundw
            case rel => exact ⟨k + 1, by omega, by go_num, HOW2, HB62⟩
            case measure => simp [intOf]; omega
      · obtain rfl : k = m := by omega
        have HDR := Lib.hid (sl_drop HOW.out)
        have HNL := Lib.hid (show cap = 1 → (mdL (gt (k + 1) cl) k).drop 1 = [] from fun e => by
          have hl := mdL_len (gt (k + 1) cl) k
          apply List.eq_nil_of_length_eq_zero
          rw [List.length_drop]; omega)
        have HBEL := Lib.hid (HB4.out.trans (HB6.out.mono (by have := HSZ.out; have := HZ4.out; omega)))
        have hc1 : (1 : Int) ≤ ((k : Int) + 1) := by omega
        have hc2 : ((k : Int) + 1) ≤ (cap : Int) := by omega
        clear HOW HB6 HC4 HX4 HS4 HB4
        go_wp2_with fail
        all_goals go_ret2
        · refine ⟨_, by rw [HR.out]; rfl, ?_, HBEL.out⟩
          rw [HR.out]
          dsimp only
          rw [HNL.out h]
          obtain rfl : k = 0 := by omega
          exact .inr ⟨_, _, rfl, Nat.le_refl _, fun j x hj => by simp at hj⟩
        · refine ⟨_, by rw [HR.out]; rfl, ?_, HBEL.out⟩
          rw [HR.out]
          exact HDR.out
end Go.Proofs.Yteoddcamicmapaa
