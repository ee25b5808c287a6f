/- OrderCounts: for every input the law returns true (tools/ordco_gen.py). -/
import Derived.Test.YtcekfgahhicdcaaOrdAw
import Derived.Test.YtcekfgahhicdcaaOrdRex
import Derived.Test.YtcekfgahhicdcaaOrdRrd
import Derived.Test.YtcekfgahhicdcaaOrdSm
namespace Go.Proofs.Ytcekfgahhicdcaa
open Go.RowKit

def HV (N : Int) (es : List (Int × Int)) (a b : Int) : Prop := (valO N es = false ∧ a = 0 ∧ b = 1) ∨ (valO N es = true ∧ b = 0 ∧ ∃ h : Nat, IsHt N.toNat es h ∧ a = h)
theorem HtP.val {N : Int} {es : List (Int × Int)} {w w' : World} {e : Ending} (h : HtP N es w e w') : ∃ a b : Int, e = .returned (.tuple #[.int .i64 a, .int .i64 b]) ∧ Below w.heap.size w w' ∧ HV N es a b := by
  obtain ⟨hb, ⟨h1, h2⟩ | ⟨h1, k, h2, _, h4⟩⟩ := h
  · exact ⟨0, 1, h2, hb, .inl ⟨h1, rfl, rfl⟩⟩
  · exact ⟨k, 0, h4, hb, .inr ⟨h1, rfl, k, h2, rfl⟩⟩
theorem HV.uniq {N : Int} {es : List (Int × Int)} {a b a' b' : Int} (h : HV N es a b) (h' : HV N es a' b') : a = a' ∧ b = b' := by
  rcases h with ⟨h1, rfl, rfl⟩ | ⟨h1, rfl, k, hk, rfl⟩
  · rcases h' with ⟨_, rfl, rfl⟩ | ⟨h2, _⟩
    · exact ⟨rfl, rfl⟩
    · rw [h1] at h2; cases h2
  · rcases h' with ⟨h2, _⟩ | ⟨_, rfl, k', hk', rfl⟩
    · rw [h1] at h2; cases h2
    · rw [ht_unique hk hk']; exact ⟨rfl, rfl⟩
theorem redR_len (N : Int) (es : List (Int × Int)) : (redR N es).2.1.length ≤ 100000 := by
  unfold redR
  cases h : valO N es with
  | false => simp
  | true =>
    obtain ⟨⟨n0, n1, _⟩, _, _⟩ := valO_parts h
    rw [if_pos rfl]
    have h1 := redL_len N.toNat es N.toNat
    have h2 : N.toNat * N.toNat ≤ 60 * 60 := Nat.mul_le_mul (by omega) (by omega)
    show (redL N.toNat es N.toNat).length ≤ 100000
    omega
set_option maxRecDepth 20000 in
set_option maxHeartbeats 8000000 in
theorem ordercounts_walk (N : Int) (A : Option Addr) (c : Nat) (es : List (Int × Int)) (most : Int) (w : World) (h : Prs w (.slice A es.length c) es) (hmx : es.length ≤ 9223372036854775807) (_hmost : I64 most) : Calls Try.prog 5 #[.agg #[.int .i64 N, .slice A es.length c], .int .i64 most] w (Ok w) := by
  obtain ⟨W, hW⟩ : ∃ W, W = w.alloc (.cells #[.int .i64 N, .slice A es.length c] 24) := ⟨_, rfl⟩
  have hWs : w.heap.size < W.heap.size := by rw [hW]; simp
  have hWb : W.heap[w.heap.size]? = some (.cells #[.int .i64 N, .slice A es.length c] 24 (0, 0)) := by rw [hW]; exact heap_alloc_new w _
  have hbw : Below w.heap.size w W := by rw [hW]; exact below_alloc _ _
  have KX := Lib.hid (show ∀ w', Below W.heap.size W w' → w'.heap[w.heap.size]? = some (.cells #[.int .i64 N, .slice A es.length c] 24 (0, 0)) from fun w' h => (h.block _ hWs).trans hWb)
  have KE := Lib.hid (show ∀ w', Below W.heap.size W w' → Below w.heap.size w w' from fun w' h => hbw.trans (h.mono (Nat.le_of_lt hWs)))
  have KP := Lib.hid (show ∀ w', Below W.heap.size W w' → Prs w' (.slice A es.length c) es from fun w' h' => h.below (KE.out _ h'))
  have HW := Lib.hid hW
  clear hWb hbw hW h
  cases hf : fewB N es.length with
  | false =>
    have Hf := Lib.hid hf; clear hf
    go_enter Try.func5, Try.ntmps5
    go_wp2_with fail
    rw [← HW.out]
    refine (awake_any W).mono ?_
    rintro e w1 ⟨rfl, hb1⟩
    have B1 := Lib.hid hb1
    clear hb1
    have hxx := KX.out _ B1.out
    have o0 := cell_of_row _ _ 0 _ _ _ hxx
    have o1 := cell_of_row _ _ 1 _ _ _ hxx
    go_wp2_with fail
    refine (few_any _ _ _ _ _).mono ?_
    rintro e w2 ⟨rfl, hb2⟩
    rw [Hf.out]
    have B2 := Lib.hid (bl2 B1.out hb2)
    clear hb2 hxx o0 o1
    have hxx := KX.out _ B2.out
    have o0 := cell_of_row _ _ 0 _ _ _ hxx
    have o1 := cell_of_row _ _ 1 _ _ _ hxx
    clear hxx
    go_wp2_with fail
    refine (awake_any _).mono ?_
    rintro e w9 ⟨rfl, hb9⟩
    have B9 := Lib.hid (KE.out _ (bl2 B2.out hb9))
    clear hb9
    go_wp2
    go_ret
    exact ⟨rfl, B9.out⟩
  | true =>
    have hl : es.length ≤ 80 ∧ N ≤ 12 := by
      unfold fewB at hf
      rw [Bool.and_eq_true, decide_eq_true_iff, decide_eq_true_iff] at hf
      exact ⟨hf.2, hf.1⟩
    obtain ⟨hl, hN⟩ := hl
    have hl' : es.length ≤ 100000 := by omega
    have Hf := Lib.hid hf; clear hf hmx
    go_enter Try.func5, Try.ntmps5
    go_wp2_with fail
    rw [← HW.out]
    refine (awake_any W).mono ?_
    rintro e w1 ⟨rfl, hb1⟩
    have B1 := Lib.hid hb1
    clear hb1
    have hxx := KX.out _ B1.out
    have o0 := cell_of_row _ _ 0 _ _ _ hxx
    have o1 := cell_of_row _ _ 1 _ _ _ hxx
    go_wp2_with fail
    refine (few_any _ _ _ _ _).mono ?_
    rintro e w2 ⟨rfl, hb2⟩
    rw [Hf.out]
    have B2 := Lib.hid (bl2 B1.out hb2)
    clear hb2 hxx o0 o1
    have hxx := KX.out _ B2.out
    have o0 := cell_of_row _ _ 0 _ _ _ hxx
    have o1 := cell_of_row _ _ 1 _ _ _ hxx
    clear hxx
    have HB := Lib.hid (show ∀ w', Below (w2.alloc (.cells #[.int .i64 N, .slice A es.length c] 27)).heap.size (w2.alloc (.cells #[.int .i64 N, .slice A es.length c] 27)) w' → Below W.heap.size W w' from fun w' h => bl2 (B2.out.alloc B2.out.size _) h)
    have KY := Lib.hid (show ∀ w', Below (w2.alloc (.cells #[.int .i64 N, .slice A es.length c] 27)).heap.size (w2.alloc (.cells #[.int .i64 N, .slice A es.length c] 27)) w' → w'.heap[w2.heap.size]? = some (.cells #[.int .i64 N, .slice A es.length c] 27 (0, 0)) from fun w' h => box_keep h)
    have HY := Lib.hid (show ∀ w', Below (w2.alloc (.cells #[.int .i64 N, .slice A es.length c] 27)).heap.size (w2.alloc (.cells #[.int .i64 N, .slice A es.length c] 27)) w' → Below (w2.alloc (.cells #[.int .i64 N, .slice A es.length c] 27)).heap.size (w2.alloc (.cells #[.int .i64 N, .slice A es.length c] 27)) w' from fun w' h => h)
    obtain ⟨E1, hE1⟩ : ∃ q, q = (extR N es most).1 := ⟨_, rfl⟩
    obtain ⟨E2, hE2⟩ : ∃ q, q = (extR N es most).2 := ⟨_, rfl⟩
    obtain ⟨R1, hR1⟩ : ∃ q, q = (redR N es).1 := ⟨_, rfl⟩
    obtain ⟨RL, hRL⟩ : ∃ q, q = (redR N es).2.1 := ⟨_, rfl⟩
    obtain ⟨R3, hR3⟩ : ∃ q, q = (redR N es).2.2 := ⟨_, rfl⟩
    have hRl : RL.length ≤ 100000 := by rw [hRL]; exact redR_len N es
    have KE1 := Lib.hid (show ∀ (w : World) e w', ExtP (extR N es most) w e w' → e = .returned (.tuple #[.int .i64 E1, .int .i64 E2]) ∧ Below w.heap.size w w' from fun w e w' h => by rw [hE1, hE2]; exact h)
    have KR1 := Lib.hid (show ∀ (w : World) e w', RedP (redR N es) w e w' → ∃ A c, e = .returned (.tuple #[.agg #[.int .i64 R1, .slice A RL.length c], .int .i64 R3]) ∧ Prs w' (.slice A RL.length c) RL ∧ Below w.heap.size w w' from fun w e w' h => by rw [hR1, hRL, hR3]; exact h)
    clear hE1 hE2 hR1 hRL hR3
    have hyy := KY.out _ (HY.out _ (Below.refl _ _))
    have x0 := cell_of_row _ _ 0 _ _ _ hyy
    have x1 := cell_of_row _ _ 1 _ _ _ hyy
    clear hyy

    go_wp2_with fail
    refine (extensions_any N most _ es _ (KP.out _ (HB.out _ (HY.out _ (Below.refl _ _)))) hl').mono ?_
    intro e w3 h3
    obtain ⟨rfl, hb3⟩ := KE1.out _ _ _ h3
    clear o0 o1 x0 x1
    replace HY := Lib.hid (show ∀ w', Below w3.heap.size w3 w' → Below (w2.alloc (.cells #[.int .i64 N, .slice A es.length c] 27)).heap.size (w2.alloc (.cells #[.int .i64 N, .slice A es.length c] 27)) w' from fun w' h => HY.out _ (bl2 (hb3) h))
    clear h3 hb3
    have hxx := KX.out _ (HB.out _ (HY.out _ (Below.refl _ w3)))
    have o0 := cell_of_row _ _ 0 _ _ _ hxx
    have o1 := cell_of_row _ _ 1 _ _ _ hxx
    have hyy := KY.out _ (HY.out _ (Below.refl _ w3))
    have x0 := cell_of_row _ _ 0 _ _ _ hyy
    have x1 := cell_of_row _ _ 1 _ _ _ hyy
    clear hxx hyy
    go_wp2_with fail
    refine (rextensions_any N most _ es _ (KP.out _ (HB.out _ (HY.out _ (Below.refl _ _)))) hl').mono ?_
    intro e w4 h4
    obtain ⟨rfl, hb4⟩ := KE1.out _ _ _ h4
    clear o0 o1 x0 x1
    replace HY := Lib.hid (show ∀ w', Below w4.heap.size w4 w' → Below (w2.alloc (.cells #[.int .i64 N, .slice A es.length c] 27)).heap.size (w2.alloc (.cells #[.int .i64 N, .slice A es.length c] 27)) w' from fun w' h => HY.out _ (bl2 (hb4) h))
    clear h4 hb4
    have hxx := KX.out _ (HB.out _ (HY.out _ (Below.refl _ w4)))
    have o0 := cell_of_row _ _ 0 _ _ _ hxx
    have o1 := cell_of_row _ _ 1 _ _ _ hxx
    have hyy := KY.out _ (HY.out _ (Below.refl _ w4))
    have x0 := cell_of_row _ _ 0 _ _ _ hyy
    have x1 := cell_of_row _ _ 1 _ _ _ hyy
    clear hxx hyy
    go_wp2_with fail
    refine (reduce_any N _ es _ (KP.out _ (HB.out _ (HY.out _ (Below.refl _ _)))) hl').mono ?_
    intro e w5 h5
    obtain ⟨A5, c5, rfl, hp5, hb5⟩ := KR1.out _ _ _ h5
    clear o0 o1 x0 x1
    have HP5 := Lib.hid (show ∀ w', Below (w5.alloc (.cells #[.int .i64 R1, .slice A5 RL.length c5] 27)).heap.size (w5.alloc (.cells #[.int .i64 R1, .slice A5 RL.length c5] 27)) w' → Prs w' (.slice A5 RL.length c5) RL ∧ w'.heap[w5.heap.size]? = some (.cells #[.int .i64 R1, .slice A5 RL.length c5] 27 (0, 0)) from fun w' h => ⟨hp5.below (box_low h), box_keep h⟩)
    replace HY := Lib.hid (show ∀ w', Below (w5.alloc (.cells #[.int .i64 R1, .slice A5 RL.length c5] 27)).heap.size (w5.alloc (.cells #[.int .i64 R1, .slice A5 RL.length c5] 27)) w' → Below (w2.alloc (.cells #[.int .i64 N, .slice A es.length c] 27)).heap.size (w2.alloc (.cells #[.int .i64 N, .slice A es.length c] 27)) w' from fun w' h => HY.out _ (bl2 (bl2 hb5 (below_alloc _ _)) h))
    clear h5 hb5 hp5
    have hxx := KX.out _ (HB.out _ (HY.out _ (Below.refl _ _)))
    have o0 := cell_of_row _ _ 0 _ _ _ hxx
    have o1 := cell_of_row _ _ 1 _ _ _ hxx
    have hyy := KY.out _ (HY.out _ (Below.refl _ _))
    have x0 := cell_of_row _ _ 0 _ _ _ hyy
    have x1 := cell_of_row _ _ 1 _ _ _ hyy
    clear hxx hyy
    go_wp2_with fail
    refine (rreduce_any N _ es _ (KP.out _ (HB.out _ (HY.out _ (Below.refl _ _)))) hl').mono ?_
    intro e w6 h6
    obtain ⟨A6, c6, rfl, hp6, hb6⟩ := KR1.out _ _ _ h6
    clear o0 o1 x0 x1
    have HP6 := Lib.hid (show ∀ w', Below (w6.alloc (.cells #[.int .i64 R1, .slice A6 RL.length c6] 24)).heap.size (w6.alloc (.cells #[.int .i64 R1, .slice A6 RL.length c6] 24)) w' → Prs w' (.slice A6 RL.length c6) RL ∧ w'.heap[w6.heap.size]? = some (.cells #[.int .i64 R1, .slice A6 RL.length c6] 24 (0, 0)) from fun w' h => ⟨hp6.below (box_low h), box_keep h⟩)
    have HP56 := Lib.hid (show ∀ w', Below (w6.alloc (.cells #[.int .i64 R1, .slice A6 RL.length c6] 24)).heap.size (w6.alloc (.cells #[.int .i64 R1, .slice A6 RL.length c6] 24)) w' → Prs w' (.slice A5 RL.length c5) RL ∧ w'.heap[w5.heap.size]? = some (.cells #[.int .i64 R1, .slice A5 RL.length c5] 27 (0, 0)) from fun w' h => HP5.out _ (bl2 (bl2 hb6 (below_alloc _ _)) h))
    replace HY := Lib.hid (show ∀ w', Below (w6.alloc (.cells #[.int .i64 R1, .slice A6 RL.length c6] 24)).heap.size (w6.alloc (.cells #[.int .i64 R1, .slice A6 RL.length c6] 24)) w' → Below (w2.alloc (.cells #[.int .i64 N, .slice A es.length c] 27)).heap.size (w2.alloc (.cells #[.int .i64 N, .slice A es.length c] 27)) w' from fun w' h => HY.out _ (bl2 (bl2 hb6 (below_alloc _ _)) h))
    clear h6 hb6 hp6
    have hxx := KX.out _ (HB.out _ (HY.out _ (Below.refl _ _)))
    have o0 := cell_of_row _ _ 0 _ _ _ hxx
    have o1 := cell_of_row _ _ 1 _ _ _ hxx
    have hyy := KY.out _ (HY.out _ (Below.refl _ _))
    have x0 := cell_of_row _ _ 0 _ _ _ hyy
    have x1 := cell_of_row _ _ 1 _ _ _ hyy
    clear hxx hyy
    go_wp2_with fail
    refine (height_any N _ es _ (KP.out _ (HB.out _ (HY.out _ (Below.refl _ _)))) hl').mono ?_
    intro e w7 h7
    obtain ⟨a7, b7, rfl, hb7, hv7⟩ := HtP.val h7
    clear o0 o1 x0 x1
    replace HY := Lib.hid (show ∀ w', Below w7.heap.size w7 w' → Below (w2.alloc (.cells #[.int .i64 N, .slice A es.length c] 27)).heap.size (w2.alloc (.cells #[.int .i64 N, .slice A es.length c] 27)) w' from fun w' h => HY.out _ (bl2 (hb7) h))
    have HQ := Lib.hid (show ∀ w', Below w7.heap.size w7 w' → Below (w6.alloc (.cells #[.int .i64 R1, .slice A6 RL.length c6] 24)).heap.size (w6.alloc (.cells #[.int .i64 R1, .slice A6 RL.length c6] 24)) w' from fun w' h => bl2 hb7 h)
    have Hv7 := Lib.hid hv7
    clear h7 hb7 hv7
    have hxx := KX.out _ (HB.out _ (HY.out _ (Below.refl _ w7)))
    have o0 := cell_of_row _ _ 0 _ _ _ hxx
    have o1 := cell_of_row _ _ 1 _ _ _ hxx
    have hyy := KY.out _ (HY.out _ (Below.refl _ w7))
    have x0 := cell_of_row _ _ 0 _ _ _ hyy
    have x1 := cell_of_row _ _ 1 _ _ _ hyy
    clear hxx hyy
    go_wp2_with fail
    refine (rheight_any N _ es _ (KP.out _ (HB.out _ (HY.out _ (Below.refl _ _)))) hl').mono ?_
    intro e w8 h8
    obtain ⟨a8, b8, rfl, hb8, hv8⟩ := HtP.val h8
    obtain ⟨rfl, rfl⟩ := HV.uniq Hv7.out hv8
    clear o0 o1 x0 x1
    replace HY := Lib.hid (show ∀ w', Below w8.heap.size w8 w' → Below (w2.alloc (.cells #[.int .i64 N, .slice A es.length c] 27)).heap.size (w2.alloc (.cells #[.int .i64 N, .slice A es.length c] 27)) w' from fun w' h => HY.out _ (bl2 (hb8) h))
    obtain ⟨p6, q6⟩ := HP6.out _ (HQ.out _ hb8)
    obtain ⟨p5, q5⟩ := HP56.out _ (HQ.out _ hb8)
    have Hp5 := Lib.hid p5; have Hp6 := Lib.hid p6
    have y0 := cell_of_row _ _ 0 _ _ _ q5
    have y1 := cell_of_row _ _ 1 _ _ _ q5
    have z0 := cell_of_row _ _ 0 _ _ _ q6
    have z1 := cell_of_row _ _ 1 _ _ _ q6
    clear h8 hb8 hv8 p5 p6 q5 q6
    go_wp2_with fail
    refine (osame_any R1 _ _ RL _ Hp5.out Hp6.out hRl).mono ?_
    rintro e w9 ⟨rfl, hb9⟩
    have B9 := Lib.hid (KE.out _ (HB.out _ (HY.out _ hb9)))
    clear hb9 y0 y1 z0 z1
    go_wp2
    go_ret
    exact ⟨rfl, B9.out⟩
end Go.Proofs.Ytcekfgahhicdcaa
