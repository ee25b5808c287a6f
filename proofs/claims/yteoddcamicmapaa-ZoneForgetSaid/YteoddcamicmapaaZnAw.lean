/- Layer 13: the example of the document (awake); own, theirs. -/
import Derived.Test.YteoddcamicmapaaZnMo
import Derived.Test.YteoddcamicmapaaLaw
namespace Go.Proofs.Yteoddcamicmapaa
open Go.RowKit

/-- The closed bounds, by rounds. -/
theorem wf_all {n : Nat} {b : List Int} (hz : Zv n b) (h0 : ∀ i, i < n → dm n b i i = 0) (M : Nat → Nat → Nat → Int) (hM0 : M 0 = dm n b) (hM : ∀ k, k < n → M (k + 1) = stp (-20001) k (M k)) (hd : ∀ k, k < n → ∀ i, i < n → 0 ≤ M (k + 1) i i) : cls n b = some (flat n (M n)) := by
  have all : ∀ k, k ≤ n → Wf n (-20001) (dm n b) k (M k) ∧ ∀ i, i < n → M k i i = 0 := by
    intro k
    induction k with
    | zero => intro _; rw [hM0]; exact ⟨Wf.start fun i j hi hj => dm_lo hz hi hj, h0⟩
    | succ k ih =>
      intro hk
      obtain ⟨h1, h2⟩ := ih (by omega)
      have h3 := hd k (by omega)
      rw [hM k (by omega)] at h3 ⊢
      exact ⟨h1.step (by omega) (fun i j _ _ => dm_hi n b i j) (h2 k (by omega)) (by omega) h3, fun i hi => by
        have := h3 i hi; have := h2 i hi; have := stp_le (c := -20001) (M := M k) (k := k) (i := i) (j := i); omega⟩
  obtain ⟨h1, h2⟩ := all n (Nat.le_refl _)
  exact (ClR.some (h1.closed (by omega) (fun i j _ _ => dm_hi n b i j) h2)).cls hz
def exB : List Int := [0, -3, 10000, 10000, 0, 20000, 10000, -1, 0]
def exM (k : Nat) : Nat → Nat → Int := match k with
  | 0 => dm 3 exB
  | 1 => stp (-20001) 0 (dm 3 exB)
  | 2 => stp (-20001) 1 (stp (-20001) 0 (dm 3 exB))
  | _ => stp (-20001) 2 (stp (-20001) 1 (stp (-20001) 0 (dm 3 exB)))
theorem ex_zv : zvB 2 exB = true := by decide
theorem ex_cls : closeR 2 exB = some (flat 3 (exM 3)) := by
  obtain ⟨m, hm, _, _, hz⟩ := zv_nat ex_zv
  obtain rfl : m = 2 := by omega
  rw [show (2 : Int) = ((2 : Nat) : Int) from rfl, closeR_nat hz]
  refine wf_all hz (by decide) exM rfl (fun k hk => ?_) (fun k hk => ?_)
  · match k, hk with
    | 0, _ => rfl
    | 1, _ => rfl
    | 2, _ => rfl
  · match k, hk with
    | 0, _ => decide
    | 1, _ => decide
    | 2, _ => decide
theorem ex_range : (rangeR 2 exB 1).2 = (9999, true) := by
  unfold rangeR; rw [ex_cls]
  decide
theorem ex_model : modR 2 exB = ([3, -10000], true) := by
  unfold modR; rw [ex_cls]
  decide
theorem ex_new : newR 2 = ((2, flat 3 fuB), .int .i64 0) := by rfl
theorem ex_add1 : addZ 2 (flat 3 fuB) (-1) 0 (-3) = ((2, [0, -3, 10000, 10000, 0, 20000, 10000, 20000, 0]), .int .i64 0) := by rfl
theorem ex_add2 : addZ 2 [0, -3, 10000, 10000, 0, 20000, 10000, 20000, 0] 1 0 (-1) = ((2, exB), .int .i64 0) := by rfl
set_option maxHeartbeats 400000 in
theorem own_any (N : Int) (A : Option Addr) (n c : Nat) (w : World) : Calls Try.prog 15 #[.agg #[.int .i64 N, .slice A n c]] w (Tells w (.agg #[.int .i64 N, .slice A n c])) := by
  go_enter Try.func15, Try.ntmps15
  go_wp2_with fail
  refine bodyPost_ret (v := .agg #[.int .i64 N, .slice A n c]) (bx_ret (heap_alloc_2' w _ _) Try.results15 _ rfl Try.underlying29 rfl (by kernel_rfl)) rfl ?_
  exact Tells.of (al2 w _ _)
set_option maxHeartbeats 400000 in
theorem theirs_any (N : Int) (A : Option Addr) (n c : Nat) (w : World) : Calls Try.prog 20 #[.agg #[.int .i64 N, .slice A n c]] w (Tells w (.agg #[.int .i64 N, .slice A n c])) := by
  go_enter Try.func20, Try.ntmps20
  go_wp2_with fail
  refine bodyPost_ret (v := .agg #[.int .i64 N, .slice A n c]) (bx_ret (heap_alloc_2' w _ _) Try.results20 _ rfl Try.underlying24 rfl (by kernel_rfl)) rfl ?_
  exact Tells.of (al2 w _ _)
def fewB (N : Int) (b : List Int) : Bool := decide (N ≤ 8) && decide (b.length ≤ 100)
set_option maxHeartbeats 400000 in
theorem few_any (N : Int) (A : Option Addr) (c : Nat) (b : List Int) (w : World) (hl : b.length ≤ 9223372036854775807) : Calls Try.prog 13 #[.agg #[.int .i64 N, .slice A b.length c]] w (Tells w (.bool (fewB N b))) := by
  unfold fewB
  by_cases h1 : N ≤ 8
  · by_cases h2 : (b.length : Int) ≤ 100
    · rw [decide_eq_true h1, decide_eq_true (p := b.length ≤ 100) (by omega)]
      go_enter Try.func13, Try.ntmps13
      go_wp2
      go_ret
      exact Tells.of (al1 w _)
    · rw [decide_eq_true h1, decide_eq_false (p := b.length ≤ 100) (by omega)]
      go_enter Try.func13, Try.ntmps13
      go_wp2
      go_ret
      exact Tells.of (al1 w _)
  · rw [decide_eq_false h1, Bool.false_and]
    go_enter Try.func13, Try.ntmps13
    go_wp2
    go_ret
    exact Tells.of (al1 w _)
set_option maxHeartbeats 1000000 in
theorem rvalid_any (N : Int) (v : Value) (b : List Int) (w : World) (h : Sl iv w v b) (hl : b.length ≤ 9223372036854775807) :
    Calls Try.prog 22 #[.agg #[.int .i64 N, v]] w (Tells w (.bool (zvB N b))) := by
  obtain ⟨A, c, rfl⟩ := h.shape
  have H := Lib.hid h
  clear h
  obtain ⟨R, hR⟩ : ∃ R, R = zvB N b := ⟨_, rfl⟩
  rw [← hR]
  have HR := Lib.hid hR; clear hR
  by_cases hn0 : N < 0
  · have hr : R = false := HR.out.trans (zv_head (by omega))
    subst hr
    go_enter Try.func22, Try.ntmps22
    go_wp2
    go_ret
    exact Tells.of (al1 w _)
  by_cases hn1 : 24 < N
  · have hr : R = false := HR.out.trans (zv_head (by omega))
    subst hr
    go_enter Try.func22, Try.ntmps22
    go_wp2
    go_ret
    exact Tells.of (al1 w _)
  obtain ⟨m, rfl⟩ : ∃ m : Nat, N = m := ⟨N.toNat, by omega⟩
  have hm : m ≤ 24 := by omega
  have e1 : ((m : Int) + 1) * ((m : Int) + 1) = (((m + 1) * (m + 1) : Nat) : Int) := by push_cast; rfl
  have h2 : (m + 1) * (m + 1) ≤ 625 := Nat.mul_le_mul (by omega : m + 1 ≤ 25) (by omega : m + 1 ≤ 25)
  have HR2 := Lib.hid (fun h => HR.out.trans (zv_head (N := (m : Int)) (b := b) h))
  have HR3 := Lib.hid (fun k hk hall hl => HR.out.trans (zv_all (N := (m : Int)) (b := b) (k := k) hk hall (by omega) (by omega) hl))
  rw [e1] at HR2 HR3
  generalize (m + 1) * (m + 1) = q at *
  clear hn0 hn1
  by_cases hq : b.length = q
  · have hq' : ((b.length : Int) != (q : Int)) = false := by rw [bne_eq_false_iff_eq]; omega
    have HR4 := Lib.hid (fun k hk hall => HR3.out k hk hall (by omega))
    have HQ := Lib.hid hq
    clear hq HR2 HR3
    go_enter Try.func22, Try.ntmps22
    go_wp2_with fail
    go_loop [3] (fun i => ∃ k : Nat, k ≤ b.length ∧ i = .int .i64 k ∧ ∀ x ∈ b.take k, -20001 ≤ x ∧ x ≤ 20000) (fun i => b.length - (intOf i).toNat)
    case atStart => exact ⟨0, Nat.zero_le _, rfl, by intro x hx; simp at hx⟩
    case round =>
      obtain ⟨k, hk, rfl, hall⟩ := hrel
      have Hall := Lib.hid hall; clear hall
      by_cases hlt : k < b.length
      · obtain ⟨ad, c', hs, hcap, hcell⟩ := sl_cell (H.out.below (al1 w (.cells #[.int .i64 (m : Int), .slice A b.length c] 24))) k hlt
        simp only [Value.slice.injEq, true_and] at hs
        obtain ⟨rfl, rfl⟩ := hs
        have Hn := Lib.hid (fun h => take_ok hlt Hall.out h)
        have Hb := Lib.hid (fun h => HR.out.trans (zv_bad hlt h))
        generalize b[k] = x at *
        unfold iv at hcell
        by_cases hx : -20001 ≤ x ∧ x ≤ 20000
        · have Hn2 := Lib.hid (Hn.out hx)
          obtain ⟨h0, h1⟩ := hx
          clear Hn Hb
          go_wp2
          go_round
          case rel => exact ⟨k + 1, by omega, by go_num, Hn2.out⟩
          case measure => simp [intOf]; omega
        · have hr := Hb.out hx
          subst hr
          by_cases h0 : x < -20001
          · clear hx Hn Hb
            go_wp2
            go_ret
            exact Tells.of (al1 w _)
          · have h1 : ¬ x ≤ 20000 := fun h => hx ⟨by omega, h⟩
            clear hx Hn Hb
            go_wp2
            go_ret
            exact Tells.of (al1 w _)
      · have hr : R = true := HR4.out k hlt Hall.out
        subst hr
        go_wp2
        go_ret
        exact Tells.of (al1 w _)
  · have hq' : ((b.length : Int) != (q : Int)) = true := by rw [bne_iff_ne]; omega
    have hr : R = false := HR2.out (by omega)
    subst hr
    clear hq HR2 HR3 HR
    go_enter Try.func22, Try.ntmps22
    go_wp2
    go_ret
    exact Tells.of (al1 w _)
theorem ex_all : ∃ l1 l2 l3 : List Int, newR 2 = ((2, l1), .int .i64 0) ∧ addZ 2 l1 (-1) 0 (-3) = ((2, l2), .int .i64 0) ∧ addZ 2 l2 1 0 (-1) = ((2, l3), .int .i64 0) ∧ (rangeR 2 l3 1).2 = (9999, true) ∧ modR 2 l3 = ([3, -10000], true) ∧ zvB 2 l3 = true ∧ l1.length ≤ 1000 ∧ l2.length ≤ 1000 ∧ l3.length ≤ 1000 :=
  ⟨_, _, _, ex_new, ex_add1, ex_add2, ex_range, ex_model, ex_zv, by decide, by decide, by decide⟩
set_option maxRecDepth 20000 in
set_option maxHeartbeats 1000000 in
theorem awake_any (w : World) : Calls Try.prog 12 #[] w (Tells w (.bool true)) := by
  obtain ⟨l1, l2, l3, e1, e2, e3, e4, e5, e6, n1, n2, n3⟩ := ex_all
  have E1 := Lib.hid e1; have E2 := Lib.hid e2; have E3 := Lib.hid e3; have E4 := Lib.hid e4; have E5 := Lib.hid e5; have E6 := Lib.hid e6
  clear e1 e2 e3 e4 e5 e6
  go_enter Try.func12, Try.ntmps12
  go_wp2_with fail
  refine (new_any 2 _).mono ?_; rintro e w1 ⟨v1, rfl, ho1, hb1⟩
  rw [E1.out] at ho1 ⊢
  dsimp only at ho1 ⊢
  obtain ⟨A1, c1, rfl⟩ := own_shapeG ho1
  have HS1 := Lib.hid ((Own.sl ho1).below (al1 w1 (.cells #[.int .i64 2, .slice A1 l1.length c1] 29)))
  have HX1 := Lib.hid (Bx.new w1 29 #[.int .i64 2, .slice A1 l1.length c1])
  have HB1 := Lib.hid (hb1.alloc hb1.size (.cells #[.int .i64 2, .slice A1 l1.length c1] 29))
  have HW1 := Lib.hid hb1.size
  clear ho1 hb1
  go_wp2_with fail
  refine (add_any 2 (-1) 0 (-3) _ l1 _ HS1.out (by omega)).mono ?_; rintro e w2 ⟨v2, rfl, ho2, hb2⟩
  rw [E2.out] at ho2 ⊢
  dsimp only at ho2 ⊢
  obtain ⟨A2, c2, rfl⟩ := own_shapeG ho2
  have hx2 := HX1.out.below hb2
  obtain ⟨x0, x1⟩ := hx2.k2
  obtain ⟨f0, f1⟩ := hx2.f2
  have HX2 := Lib.hid (Bx.set (Bx.set hx2 0 (.int .i64 2)) 1 (.slice A2 l2.length c2))
  have hne := Own.lt ho2 (k := w1.heap.size) (.inl (by simp))
  have HO2 := Lib.hid ((Own.other (Own.other ho2 (i := 0) (y := .int .i64 2) hne) (i := 1) (y := .slice A2 l2.length c2) hne))
  have HB2 := Lib.hid (((HB1.out.trans (hb2.mono HB1.out.size)).setCell (p := ⟨w1.heap.size, 0, none⟩) HW1.out (.int .i64 2)).setCell (p := ⟨w1.heap.size, 1, none⟩) HW1.out (.slice A2 l2.length c2))
  clear ho2 hb2 hx2 HX1 HB1 HS1 hne
  go_wp2_with fail
  have HW2 := Lib.hid (show Below w.heap.size w _ from HB2.out)
  generalize (w2.setCell ⟨w1.heap.size, 0, none⟩ (.int .i64 2)).setCell ⟨w1.heap.size, 1, none⟩ (.slice A2 l2.length c2) = w3 at *
  clear x0 x1 f0 f1
  refine (add_any 2 1 0 (-1) _ l2 _ (Own.sl HO2.out) (by omega)).mono ?_; rintro e w4 ⟨v3, rfl, ho3, hb3⟩
  rw [E3.out] at ho3 ⊢
  dsimp only at ho3 ⊢
  obtain ⟨A3, c3, rfl⟩ := own_shapeG ho3
  have hx3 : Bx w4 w1.heap.size 29 #[.int .i64 2, .slice A2 l2.length c2] := HX2.out.below hb3
  obtain ⟨x0, x1⟩ := hx3.k2
  obtain ⟨f0, f1⟩ := hx3.f2
  have HX3 := Lib.hid (show Bx _ w1.heap.size 29 #[.int .i64 2, .slice A3 l3.length c3] from Bx.set (Bx.set hx3 0 (.int .i64 2)) 1 (.slice A3 l3.length c3))
  have hne := Own.lt ho3 (k := w1.heap.size) (.inl (show w1.heap.size < w3.heap.size from HX2.out.lt))
  have HO3 := Lib.hid ((Own.other (Own.other ho3 (i := 0) (y := .int .i64 2) hne) (i := 1) (y := .slice A3 l3.length c3) hne))
  have HB3 := Lib.hid (((HB2.out.trans (hb3.mono HB2.out.size)).setCell (p := ⟨w1.heap.size, 0, none⟩) HW1.out (.int .i64 2)).setCell (p := ⟨w1.heap.size, 1, none⟩) HW1.out (.slice A3 l3.length c3))
  clear ho3 hb3 hx3 HX2 HB2 HO2 hne HW2
  go_wp2_with fail
  generalize (w4.setCell ⟨w1.heap.size, 0, none⟩ (.int .i64 2)).setCell ⟨w1.heap.size, 1, none⟩ (.slice A3 l3.length c3) = w5 at *
  clear x0 x1 f0 f1
  obtain ⟨x0, x1⟩ := HX3.out.k2
  refine (range_any 2 1 _ l3 _ (Own.sl HO3.out) (by omega)).mono ?_; rintro e w6 ⟨rfl, hb6⟩
  rw [E4.out]
  dsimp only
  have HB6 := Lib.hid (HB3.out.trans (hb6.mono HB3.out.size))
  have HX6 := Lib.hid (HX3.out.below hb6)
  have HS6 := Lib.hid ((Own.sl HO3.out).below hb6)
  clear hb6 x0 x1 HB3 HX3 HO3
  obtain ⟨x0, x1⟩ := HX6.out.k2
  go_wp2_with fail
  refine (model_any 2 _ l3 _ HS6.out (by omega)).mono ?_; rintro e w7 ⟨v7, rfl, hs7, hb7⟩
  rw [E5.out] at hs7 ⊢
  obtain ⟨ad, c7, rfl, -, z0⟩ := sl_cell hs7 0 (by decide)
  obtain ⟨ad', c7', h7, -, z1⟩ := sl_cell hs7 1 (by decide)
  simp only [Value.slice.injEq, Option.some.injEq, true_and] at h7
  obtain ⟨rfl, rfl⟩ := h7
  have HB7 := Lib.hid (HB6.out.trans (hb7.mono HB6.out.size))
  have HX7 := Lib.hid (HX6.out.below hb7)
  have HS7 := Lib.hid (HS6.out.below hb7)
  clear hb7 hs7 x0 x1 HB6 HX6 HS6
  obtain ⟨x0, x1⟩ := HX7.out.k2
  dsimp only [iv, List.length_cons, List.length_nil, List.getElem_cons_zero, List.getElem_cons_succ] at z0 z1 ⊢
  have z0b : w7.cell? ad = some (.int .i64 3) := by simpa [Addr.add] using z0
  have z1b : w7.cell? ⟨ad.block, ad.off + 1, none⟩ = some (.int .i64 (-10000)) := by simpa [Addr.add] using z1
  go_wp2_with fail
  refine (valid_any 2 _ l3 _ HS7.out (by omega)).mono ?_; rintro e w8 ⟨rfl, hb8⟩; rw [E6.out]
  have HB8 := Lib.hid (HB7.out.trans (hb8.mono HB7.out.size))
  clear hb8 z0 z0b z1 z1b x0 x1
  go_wp2_with fail
  go_ret
  exact Tells.of HB8.out
end Go.Proofs.Yteoddcamicmapaa
