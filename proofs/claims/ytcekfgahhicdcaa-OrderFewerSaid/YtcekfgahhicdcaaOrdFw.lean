/- OrderFewer: for every input the law returns true (tools/ordfew_gen.py). -/
import Derived.Test.YtcekfgahhicdcaaOrdAw
import Derived.Test.YtcekfgahhicdcaaOrdCt
import Derived.Test.YtcekfgahhicdcaaOrdFi
import Derived.Deep.AppendLies
namespace Go.Proofs.Ytcekfgahhicdcaa
open Go.RowKit

theorem extR_ok {n : Nat} {es : List (Int × Int)} (hv : valO n es = true) : extR n es 1000 = (min 1000 ((wys (psts (n : Int) es) n 0 : Nat) : Int), 0) := by
  unfold extR; rw [hv, if_pos rfl, if_pos (by omega), cnt_is (by omega)]
set_option maxRecDepth 20000 in
set_option maxHeartbeats 8000000 in
theorem orderfewer_walk (N : Int) (A : Option Addr) (c : Nat) (es : List (Int × Int)) (x y : Int) (w : World) (h : Prs w (.slice A es.length c) es) (hmx : es.length ≤ 9223372036854775807) : Calls Try.prog 9 #[.agg #[.int .i64 N, .slice A es.length c], .agg #[.int .i64 x, .int .i64 y]] w (Ok w) := by
  have b1 := below_alloc w (.cells #[.int .i64 N, .slice A es.length c] 24)
  have b2 := below_alloc (w.alloc (.cells #[.int .i64 N, .slice A es.length c] 24)) (.cells #[.int .i64 x, .int .i64 y] 50)
  have b3 := below_alloc ((w.alloc (.cells #[.int .i64 N, .slice A es.length c] 24)).alloc (.cells #[.int .i64 x, .int .i64 y] 50)) (.cells #[.int .i64 N, .slice A es.length c] 27)
  have g1 := heap_alloc_new w (.cells #[.int .i64 N, .slice A es.length c] 24)
  have g2 := heap_alloc_new (w.alloc (.cells #[.int .i64 N, .slice A es.length c] 24)) (.cells #[.int .i64 x, .int .i64 y] 50)
  have g3 := heap_alloc_new ((w.alloc (.cells #[.int .i64 N, .slice A es.length c] 24)).alloc (.cells #[.int .i64 x, .int .i64 y] 50)) (.cells #[.int .i64 N, .slice A es.length c] 27)
  have s1 : (w.alloc (.cells #[.int .i64 N, .slice A es.length c] 24)).heap.size = w.heap.size + 1 := by simp
  have s2 : ((w.alloc (.cells #[.int .i64 N, .slice A es.length c] 24)).alloc (.cells #[.int .i64 x, .int .i64 y] 50)).heap.size = w.heap.size + 2 := by simp
  have s3 : (((w.alloc (.cells #[.int .i64 N, .slice A es.length c] 24)).alloc (.cells #[.int .i64 x, .int .i64 y] 50)).alloc (.cells #[.int .i64 N, .slice A es.length c] 27)).heap.size = w.heap.size + 3 := by simp
  rw [s1] at g2 b2
  rw [s2] at g3 b3
  have hb2 : Below w.heap.size w (((w.alloc (.cells #[.int .i64 N, .slice A es.length c] 24)).alloc (.cells #[.int .i64 x, .int .i64 y] 50)).alloc (.cells #[.int .i64 N, .slice A es.length c] 27)) := (b1.trans (b2.mono (by omega))).trans (b3.mono (by omega))
  have h1 := (b3.block _ (by omega)).trans ((b2.block _ (by omega)).trans g1)
  have h2 := (b3.block _ (by omega)).trans g2
  clear g1 g2 b1 b2 b3 s1 s2
  obtain ⟨W, hW⟩ : ∃ W, W = (((w.alloc (.cells #[.int .i64 N, .slice A es.length c] 24)).alloc (.cells #[.int .i64 x, .int .i64 y] 50)).alloc (.cells #[.int .i64 N, .slice A es.length c] 27)) := ⟨_, rfl⟩
  rw [← hW] at hb2 h1 h2 g3 s3
  have HW := Lib.hid hW
  have KX := Lib.hid (show ∀ w', Below W.heap.size W w' → w'.heap[w.heap.size]? = some (.cells #[.int .i64 N, .slice A es.length c] 24 (0, 0)) ∧ w'.heap[w.heap.size + 1]? = some (.cells #[.int .i64 x, .int .i64 y] 50 (0, 0)) ∧ w'.heap[w.heap.size + 2]? = some (.cells #[.int .i64 N, .slice A es.length c] 27 (0, 0)) from fun w' h => ⟨(h.block _ (by omega)).trans h1, (h.block _ (by omega)).trans h2, (h.block _ (by omega)).trans g3⟩)
  have KP := Lib.hid (show ∀ w', Below W.heap.size W w' → Prs w' (.slice A es.length c) es from fun w' hw => h.below (bl2 hb2 hw))
  have KE := Lib.hid (show ∀ w', Below W.heap.size W w' → Below w.heap.size w w' from fun w' hw => bl2 hb2 hw)
  clear hW hb2 h1 h2 g3 s3 h
  cases hf : fewB N es.length with
  | false =>
    have Hf := Lib.hid hf; clear hf
    go_enter Try.func9, Try.ntmps9
    go_wp2_with fail
    rw [← HW.out]
    refine (awake_any W).mono ?_
    rintro e w1 ⟨rfl, hb1⟩
    have B1 := Lib.hid hb1
    clear hb1
    have hxx := KX.out _ B1.out
    have o0 := cell_of_row _ _ 0 _ _ _ hxx.1
    have o1 := cell_of_row _ _ 1 _ _ _ hxx.1
    have q0 := cell_of_row _ _ 0 _ _ _ hxx.2.1
    have q1 := cell_of_row _ _ 1 _ _ _ hxx.2.1
    have x0 := cell_of_row _ _ 0 _ _ _ hxx.2.2
    have x1 := cell_of_row _ _ 1 _ _ _ hxx.2.2
    go_wp2_with fail
    refine (few_any _ _ _ _ _).mono ?_
    rintro e w2 ⟨rfl, hb2⟩
    rw [Hf.out]
    have B2 := Lib.hid (bl2 B1.out hb2)
    clear hb2
    clear hxx o0 o1 q0 q1 x0 x1
    have hxx := KX.out _ B2.out
    have o0 := cell_of_row _ _ 0 _ _ _ hxx.1
    have o1 := cell_of_row _ _ 1 _ _ _ hxx.1
    have q0 := cell_of_row _ _ 0 _ _ _ hxx.2.1
    have q1 := cell_of_row _ _ 1 _ _ _ hxx.2.1
    have x0 := cell_of_row _ _ 0 _ _ _ hxx.2.2
    have x1 := cell_of_row _ _ 1 _ _ _ hxx.2.2
    go_wp2_with fail
    refine (awake_any _).mono ?_
    rintro e w9 ⟨rfl, hb9⟩
    have B9 := Lib.hid (KE.out _ (bl2 B2.out hb9))
    clear hb9
    go_wp2
    go_ret
    exact ⟨rfl, B9.out⟩
  | true =>
    have hl : es.length ≤ 80 ∧ N ≤ 12 := by
      unfold fewB at hf
      rw [Bool.and_eq_true, decide_eq_true_iff, decide_eq_true_iff] at hf
      exact ⟨hf.2, hf.1⟩
    obtain ⟨hl, hN⟩ := hl
    have hl' : es.length ≤ 100000 := by omega
    have Hf := Lib.hid hf; clear hf hmx
    by_cases h7 : 7 < N
    · have d7 : decide (7 < N) = true := decide_eq_true h7
      go_enter Try.func9, Try.ntmps9
      go_wp2_with fail
      rw [← HW.out]
      refine (awake_any W).mono ?_
      rintro e w1 ⟨rfl, hb1⟩
      have B1 := Lib.hid hb1
      clear hb1
      have hxx := KX.out _ B1.out
      have o0 := cell_of_row _ _ 0 _ _ _ hxx.1
      have o1 := cell_of_row _ _ 1 _ _ _ hxx.1
      have q0 := cell_of_row _ _ 0 _ _ _ hxx.2.1
      have q1 := cell_of_row _ _ 1 _ _ _ hxx.2.1
      have x0 := cell_of_row _ _ 0 _ _ _ hxx.2.2
      have x1 := cell_of_row _ _ 1 _ _ _ hxx.2.2
      go_wp2_with fail
      refine (few_any _ _ _ _ _).mono ?_
      rintro e w2 ⟨rfl, hb2⟩
      rw [Hf.out]
      have B2 := Lib.hid (bl2 B1.out hb2)
      clear hb2
      clear hxx o0 o1 q0 q1 x0 x1
      have hxx := KX.out _ B2.out
      have o0 := cell_of_row _ _ 0 _ _ _ hxx.1
      have o1 := cell_of_row _ _ 1 _ _ _ hxx.1
      have q0 := cell_of_row _ _ 0 _ _ _ hxx.2.1
      have q1 := cell_of_row _ _ 1 _ _ _ hxx.2.1
      have x0 := cell_of_row _ _ 0 _ _ _ hxx.2.2
      have x1 := cell_of_row _ _ 1 _ _ _ hxx.2.2
      go_wp2_with fail
      refine (awake_any _).mono ?_
      rintro e w9 ⟨rfl, hb9⟩
      have B9 := Lib.hid (KE.out _ (bl2 B2.out hb9))
      clear hb9
      go_wp2
      go_ret
      exact ⟨rfl, B9.out⟩
    · have d7 : decide (7 < N) = false := decide_eq_false h7
      cases hv : valO N es with
      | false =>
        have Hv := Lib.hid hv; clear hv
        go_enter Try.func9, Try.ntmps9
        go_wp2_with fail
        rw [← HW.out]
        refine (awake_any W).mono ?_
        rintro e w1 ⟨rfl, hb1⟩
        have B1 := Lib.hid hb1
        clear hb1
        have hxx := KX.out _ B1.out
        have o0 := cell_of_row _ _ 0 _ _ _ hxx.1
        have o1 := cell_of_row _ _ 1 _ _ _ hxx.1
        have q0 := cell_of_row _ _ 0 _ _ _ hxx.2.1
        have q1 := cell_of_row _ _ 1 _ _ _ hxx.2.1
        have x0 := cell_of_row _ _ 0 _ _ _ hxx.2.2
        have x1 := cell_of_row _ _ 1 _ _ _ hxx.2.2
        go_wp2_with fail
        refine (few_any _ _ _ _ _).mono ?_
        rintro e w2 ⟨rfl, hb2⟩
        rw [Hf.out]
        have B2 := Lib.hid (bl2 B1.out hb2)
        clear hb2
        clear hxx o0 o1 q0 q1 x0 x1
        have hxx := KX.out _ B2.out
        have o0 := cell_of_row _ _ 0 _ _ _ hxx.1
        have o1 := cell_of_row _ _ 1 _ _ _ hxx.1
        have q0 := cell_of_row _ _ 0 _ _ _ hxx.2.1
        have q1 := cell_of_row _ _ 1 _ _ _ hxx.2.1
        have x0 := cell_of_row _ _ 0 _ _ _ hxx.2.2
        have x1 := cell_of_row _ _ 1 _ _ _ hxx.2.2
        go_wp2_with fail
        refine (valid_any N _ es _ (KP.out _ B2.out) hl').mono ?_
        rintro e w3 ⟨rfl, hb3⟩
        rw [Hv.out]
        have B3 := Lib.hid (bl2 B2.out hb3)
        clear hb3
        clear hxx o0 o1 q0 q1 x0 x1
        go_wp2_with fail
        refine (awake_any _).mono ?_
        rintro e w9 ⟨rfl, hb9⟩
        have B9 := Lib.hid (KE.out _ (bl2 B3.out hb9))
        clear hb9
        go_wp2
        go_ret
        exact ⟨rfl, B9.out⟩
      | true =>
        have Hv := Lib.hid hv
        obtain ⟨⟨n0, n1, n2⟩, _, hac⟩ := valO_parts hv
        obtain ⟨n, rfl⟩ : ∃ n : Nat, N = n := ⟨N.toNat, by omega⟩
        have hn : n ≤ 7 := by omega
        have Hac := Lib.hid hac
        have Hex := Lib.hid (extR_ok hv)
        have Hpos := Lib.hid (wys_pos hac n 0 (Un_all n))
        have Hone := Lib.hid (fun h (hh : IsHt n es h) => one_iff (n := n) hac hh)
        clear hv n0 n1 hac hN h7
        go_enter Try.func9, Try.ntmps9
        go_wp2_with fail
        rw [← HW.out]
        refine (awake_any W).mono ?_
        rintro e w1 ⟨rfl, hb1⟩
        have B1 := Lib.hid hb1
        clear hb1
        have hxx := KX.out _ B1.out
        have o0 := cell_of_row _ _ 0 _ _ _ hxx.1
        have o1 := cell_of_row _ _ 1 _ _ _ hxx.1
        have q0 := cell_of_row _ _ 0 _ _ _ hxx.2.1
        have q1 := cell_of_row _ _ 1 _ _ _ hxx.2.1
        have x0 := cell_of_row _ _ 0 _ _ _ hxx.2.2
        have x1 := cell_of_row _ _ 1 _ _ _ hxx.2.2
        go_wp2_with fail
        refine (few_any _ _ _ _ _).mono ?_
        rintro e w2 ⟨rfl, hb2⟩
        rw [Hf.out]
        have B2 := Lib.hid (bl2 B1.out hb2)
        clear hb2
        clear hxx o0 o1 q0 q1 x0 x1
        have hxx := KX.out _ B2.out
        have o0 := cell_of_row _ _ 0 _ _ _ hxx.1
        have o1 := cell_of_row _ _ 1 _ _ _ hxx.1
        have q0 := cell_of_row _ _ 0 _ _ _ hxx.2.1
        have q1 := cell_of_row _ _ 1 _ _ _ hxx.2.1
        have x0 := cell_of_row _ _ 0 _ _ _ hxx.2.2
        have x1 := cell_of_row _ _ 1 _ _ _ hxx.2.2
        go_wp2_with fail
        refine (valid_any n _ es _ (KP.out _ B2.out) hl').mono ?_
        rintro e w3 ⟨rfl, hb3⟩
        rw [Hv.out]
        have B3 := Lib.hid (bl2 B2.out hb3)
        clear hb3 B1 B2
        clear hxx o0 o1 q0 q1 x0 x1
        have hxx := KX.out _ B3.out
        have o0 := cell_of_row _ _ 0 _ _ _ hxx.1
        have o1 := cell_of_row _ _ 1 _ _ _ hxx.1
        have q0 := cell_of_row _ _ 0 _ _ _ hxx.2.1
        have q1 := cell_of_row _ _ 1 _ _ _ hxx.2.1
        have x0 := cell_of_row _ _ 0 _ _ _ hxx.2.2
        have x1 := cell_of_row _ _ 1 _ _ _ hxx.2.2
        go_wp2_with fail
        refine (extensions_any n 1000 _ es _ (KP.out _ B3.out) hl').mono ?_
        rintro e w4 ⟨h1, hb4⟩
        rw [Hex.out] at h1
        subst h1
        have B4 := Lib.hid (bl2 B3.out hb4)
        clear hb4
        clear hxx o0 o1 q0 q1 x0 x1
        have hxx := KX.out _ B4.out
        have o0 := cell_of_row _ _ 0 _ _ _ hxx.1
        have o1 := cell_of_row _ _ 1 _ _ _ hxx.1
        have q0 := cell_of_row _ _ 0 _ _ _ hxx.2.1
        have q1 := cell_of_row _ _ 1 _ _ _ hxx.2.1
        have x0 := cell_of_row _ _ 0 _ _ _ hxx.2.2
        have x1 := cell_of_row _ _ 1 _ _ _ hxx.2.2
        go_wp2_with fail
        refine (height_any n _ es _ (KP.out _ B4.out) hl').mono ?_
        rintro e w5 ⟨hb5, hht⟩
        have B5 := Lib.hid (bl2 B4.out hb5)
        clear hb5
        obtain ⟨h, hh, hhn, rfl⟩ : ∃ h : Nat, IsHt n es h ∧ h ≤ n ∧ e = .returned (.tuple #[.int .i64 (h : Int), .int .i64 0]) := by
          rcases hht with ⟨hf, _⟩ | ⟨_, h, h1, h2, h3⟩
          · rw [Hv.out] at hf; cases hf
          · rw [Int.toNat_natCast] at h1 h2; exact ⟨h, h1, h2, h3⟩
        obtain ⟨q, hq⟩ : ∃ q : Int, q = min 1000 ((wys (psts (n : Int) es) n 0 : Nat) : Int) := ⟨_, rfl⟩
        have hq1 : 1 ≤ q := by have := Hpos.out; omega
        have hqh : q = 1 ↔ h = n := by rw [← Hone.out h hh, hq]; omega
        have Hq := Lib.hid hq
        rw [← hq]
        have e1 : decide (q < 1) = false := decide_eq_false (by omega)
        obtain ⟨bq, hbq⟩ : ∃ b, b = (q == 1) := ⟨_, rfl⟩
        have e2a : (q == 1) = bq := hbq.symm
        have e2 : ((h : Int) == (n : Int)) = bq := by
          rw [hbq, Bool.eq_iff_iff, beq_iff_eq, beq_iff_eq, hqh]; omega
        clear hbq
        have e3 : decide ((h : Int) < 0) = false := decide_eq_false (by omega)
        have e4 : decide ((n : Int) < (h : Int)) = false := decide_eq_false (by omega)
        clear hq hqh hh
        clear hxx o0 o1 q0 q1 x0 x1
        have hxx := KX.out _ B5.out
        have o0 := cell_of_row _ _ 0 _ _ _ hxx.1
        have o1 := cell_of_row _ _ 1 _ _ _ hxx.1
        have q0 := cell_of_row _ _ 0 _ _ _ hxx.2.1
        have q1 := cell_of_row _ _ 1 _ _ _ hxx.2.1
        have x0 := cell_of_row _ _ 0 _ _ _ hxx.2.2
        have x1 := cell_of_row _ _ 1 _ _ _ hxx.2.2
        go_wp2_with fail
        clear e1 e2 e2a e3 e4
        have KS := Lib.hid (show ∀ w', Below w5.heap.size w5 w' → w'.cell? ⟨w.heap.size, 0, none⟩ = some (.int .i64 (n : Int)) ∧ w'.cell? ⟨w.heap.size, 1, none⟩ = some (.slice A es.length c) ∧ w'.cell? ⟨w.heap.size + 1, 0, none⟩ = some (.int .i64 x) ∧ w'.cell? ⟨w.heap.size + 1, 1, none⟩ = some (.int .i64 y) from fun w' h => ⟨cell_of_row _ _ 0 _ _ _ (KX.out _ (bl2 B5.out h)).1, cell_of_row _ _ 1 _ _ _ (KX.out _ (bl2 B5.out h)).1, cell_of_row _ _ 0 _ _ _ (KX.out _ (bl2 B5.out h)).2.1, cell_of_row _ _ 1 _ _ _ (KX.out _ (bl2 B5.out h)).2.1⟩)
        have KN := Lib.hid (show ∀ w', Below w5.heap.size w5 w' → Prs w' (.slice A es.length c) es from fun w' h => KP.out _ (bl2 B5.out h))
        obtain ⟨i0, hi0, hz0, hz1, hz2⟩ := info_parts info_pair
        refine region_inv (n := 102) (FwI w5 (n : Int) (.slice A es.length c) w.heap.size es x y) (by kernel_rfl) (by kernel_rfl) rfl ?_ (allOps_spec ?_) ?_
        · intro vs
          exact FwI.start (bl_drew (Below.refl _ _))
        · refine ⟨?_, ?_, ?_, ?_, ?_, ?_, ?_, ?_, ?_, ?_, ?_, ?_, trivial⟩
          · intro L vs a w2 hB hL hd hI
            have b2 : a.tmps[2]?.getD undef = .pointer (some ⟨w.heap.size, 0, none⟩) := hB.at 2 (by kernel_rfl)
            exact stepI_run (v := .pointer (some ⟨w.heap.size, 0, none⟩)) rfl (by simp [execOp, go_sem, Act.eval, b2]) (hI.s0)
          · intro L vs a w2 hB hL hd hI
            have b76 : a.tmps[76]?.getD undef = .pointer (some ⟨w.heap.size, 0, none⟩) := (hB.val 0 (hd ⟨0, .data⟩ (by simp) rfl) 76 rfl).trans (hI.p0 (hd ⟨0, .data⟩ (by simp) rfl))
            obtain ⟨k0, k1, k2, k3⟩ := KS.out _ hI.bel
            exact stepI_run (v := .int .i64 (n : Int)) rfl (by simp [execOp, go_sem, Act.eval, b76, k0]) (hI.s1)
          · intro L vs a w2 hB hL hd hI
            have h5 : L 5 = false := hB.wait 2 5 hL (by kernel_rfl)
            have h8 : L 8 = false := hB.wait 5 8 h5 (by kernel_rfl)
            have h11 : L 11 = false := hB.wait 2 11 hL (by kernel_rfl)
            exact stepI_run (v := .slice (some ⟨w2.heap.size, 0, none⟩) 0 0) (w' := w2.alloc (.cells #[] 50)) rfl (by simp [execOp, go_sem, Act.eval]) (hI.s2 h5 h8 h11)
          · intro L vs a w2 hB hL hd hI
            have b2 : a.tmps[2]?.getD undef = .pointer (some ⟨w.heap.size, 0, none⟩) := hB.at 2 (by kernel_rfl)
            exact stepI_run (v := .pointer (some ⟨w.heap.size, 1, none⟩)) rfl (by simp [execOp, go_sem, Act.eval, b2]) (hI.s3)
          · intro L vs a w2 hB hL hd hI
            have b79 : a.tmps[79]?.getD undef = .pointer (some ⟨w.heap.size, 1, none⟩) := (hB.val 3 (hd ⟨3, .data⟩ (by simp) rfl) 79 rfl).trans (hI.p3 (hd ⟨3, .data⟩ (by simp) rfl))
            obtain ⟨k0, k1, k2, k3⟩ := KS.out _ hI.bel
            exact stepI_run (v := .slice A es.length c) rfl (by simp [execOp, go_sem, Act.eval, b79, k1]) (hI.s4)
          · intro L vs a w2 hB hL hd hI
            have h2 : L 2 = true := hd ⟨2, .data⟩ (by simp) rfl
            have h8 : L 8 = false := hB.wait 5 8 hL (by kernel_rfl)
            have h11 : L 11 = false := hB.wait 5 11 hL (by kernel_rfl)
            have b78 : a.tmps[78]?.getD undef = vs 2 := hB.val 2 (hd ⟨2, .data⟩ (by simp) rfl) 78 rfl
            have b80 : a.tmps[80]?.getD undef = .slice A es.length c := (hB.val 4 (hd ⟨4, .data⟩ (by simp) rfl) 80 rfl).trans (hI.p4 (hd ⟨4, .data⟩ (by simp) rfl))
            refine stepI_on rfl (wp_append_prs (.tmp 78) (.tmp 80) rfl w5.heap.size (vs 2) (by simp [Act.eval, b78]) (hI.r2 h2 hL).own (.slice A es.length c) es (by simp [Act.eval, b80]) (KN.out _ hI.bel) (by omega) hI.bel.size ?_)
            intro v' w3 ho hg
            exact ⟨_, rfl, hI.s5 h2 hL h8 h11 ho hg⟩
          · intro L vs a w2 hB hL hd hI
            have b3 : a.tmps[3]?.getD undef = .pointer (some ⟨w.heap.size + 1, 0, none⟩) := hB.at 3 (by kernel_rfl)
            obtain ⟨k0, k1, k2, k3⟩ := KS.out _ hI.bel
            exact stepI_run (v := .agg #[.int .i64 x, .int .i64 y]) rfl (by simp [execOp, go_sem, Act.eval, b3, k2, k3]) (hI.s6)
          · intro L vs a w2 hB hL hd hI
            have h8 : L 8 = false := hB.wait 7 8 hL (by kernel_rfl)
            have h11 : L 11 = false := hB.wait 7 11 hL (by kernel_rfl)
            have b82 : a.tmps[82]?.getD undef = .agg #[.int .i64 x, .int .i64 y] := (hB.val 6 (hd ⟨6, .data⟩ (by simp) rfl) 82 rfl).trans (hI.p6 (hd ⟨6, .data⟩ (by simp) rfl))
            exact stepI_run (v := .slice (some ⟨w2.heap.size, 0, none⟩) 1 1) (w' := w2.alloc (.cells #[.int .i64 x, .int .i64 y] 50)) rfl (by simp [execOp, go_sem, Act.eval, b82]) (hI.s7 h8 h11)
          · intro L vs a w2 hB hL hd hI
            have h5 : L 5 = true := hd ⟨5, .data⟩ (by simp) rfl
            have h7 : L 7 = true := hd ⟨7, .data⟩ (by simp) rfl
            have h9 : L 9 = false := hB.wait 8 9 hL (by kernel_rfl)
            have h11 : L 11 = false := hB.wait 8 11 hL (by kernel_rfl)
            have b81 : a.tmps[81]?.getD undef = vs 5 := hB.val 5 (hd ⟨5, .data⟩ (by simp) rfl) 81 rfl
            obtain ⟨g, hg7, hnew⟩ := (hI.e7 h7 hL).news
            have b83 : a.tmps[83]?.getD undef = .slice (some ⟨g, 0, none⟩) 1 1 := (hB.val 7 h7 83 rfl).trans hg7
            refine stepI_on rfl (wp_append_own w2 (.tmp 81) (.tmp 83) _ rfl w5.heap.size 50 i0 _ 2 16 (by kernel_rfl) hi0 hz0 hz1 hz2 rfl (by omega) (vs 5) es.length (es.flatMap pcells) (by simp [Act.eval, b81]) (hI.r5 h5 hL) ⟨g, 0, none⟩ 1 1 [.int .i64 x, .int .i64 y] (by simp [Act.eval, b83]) rfl hnew (by simp [Value.oneCell']) (by unfold maxLen; omega) (by omega) hI.bel.size ?_)
            intro v' w3 ho hg _
            exact ⟨_, rfl, hI.s8 h5 hL h9 h11 ho hg⟩
          · intro L vs a w2 hB hL hd hI
            have b77 : a.tmps[77]?.getD undef = .int .i64 (n : Int) := (hB.val 1 (hd ⟨1, .data⟩ (by simp) rfl) 77 rfl).trans (hI.p1 (hd ⟨1, .data⟩ (by simp) rfl))
            have b84 : a.tmps[84]?.getD undef = vs 8 := hB.val 8 (hd ⟨8, .data⟩ (by simp) rfl) 84 rfl
            obtain ⟨A8, c8, h8v⟩ := own_shapeG (hI.r8 (hd ⟨8, .data⟩ (by simp) rfl))
            have hs := hI.s9
            rw [h8v] at b84 hs
            exact stepI_run (v := .agg #[.int .i64 (n : Int), .slice A8 (es.length + 1) c8]) rfl (by simp [execOp, go_sem, Act.eval, b77, b84]) hs
          · intro L vs a w2 hB hL hd hI
            have h11 : L 11 = false := hB.wait 10 11 hL (by kernel_rfl)
            exact stepI_run (v := .pointer (some ⟨w2.heap.size, 0, none⟩)) (w' := w2.alloc (.cells #[.int .i64 0, .slice none 0 0] 27)) rfl (by simp [execOp, go_sem]) (hI.s10 h11)
          · intro L vs a w2 hB hL hd hI
            have h10 : L 10 = true := hd ⟨10, .data⟩ (by simp) rfl
            have h9 : L 9 = true := hd ⟨9, .data⟩ (by simp) rfl
            have h8 : L 8 = true := hd ⟨8, .chain⟩ (by simp) rfl
            have h5 : L 5 = true := hd ⟨5, .phase⟩ (by simp) rfl
            obtain ⟨g, hv, hBg, hg⟩ := hI.b10 h10 hL
            have b10 : a.tmps[10]?.getD undef = .pointer (some ⟨g, 0, none⟩) := (hB.val 10 h10 10 rfl).trans hv
            have b85 : a.tmps[85]?.getD undef = .agg #[.int .i64 (n : Int), vs 8] := (hB.val 9 h9 85 rfl).trans (hI.p9 h9)
            have e0 := cell_of_row _ _ 0 _ _ _ hg
            have e1 := cell_of_row _ _ 1 _ _ _ hg
            have f0 := frozen_ofR hg 0
            have f1 := frozen_ofR hg 1
            obtain ⟨A8, c8, h8v⟩ := own_shapeG (hI.r8 h8)
            have hs := hI.s11 h5 h8 hv hBg hg
            rw [h8v] at b85 hs
            exact stepI_skip (w' := (w2.setCell ⟨g, 0, none⟩ (.int .i64 (n : Int))).setCell ⟨g, 1, none⟩ (.slice A8 (es.length + 1) c8)) rfl (by simp [execOp, go_sem, Act.eval, b10, b85, e0, e1, f0, f1]) hs
        · intro L vs w2 hall hI
          obtain ⟨g, h10, hbox⟩ := hI.b11 (hall 11 (by decide))
          have own := hI.r8 (hall 8 (by decide))
          obtain ⟨A8, c8, h8⟩ := own_shapeG own
          rw [h8] at hbox own
          have hLS : (es ++ [(x, y)]).length = es.length + 1 := by simp
          have hLS0 := hLS
          obtain ⟨e2s, he2⟩ : ∃ e2s, e2s = es ++ [(x, y)] := ⟨_, rfl⟩
          rw [← he2] at hLS
          rw [← hLS] at hbox own
          have PF : Prs w2 (.slice A8 e2s.length c8) e2s := Prs.of_own (B := w5.heap.size) (by
            rw [show e2s.flatMap pcells = es.flatMap pcells ++ [.int .i64 x, .int .i64 y] by rw [he2, List.flatMap_append]; simp [pcells]]
            exact own)
          have hmem : ∀ p ∈ es, p ∈ e2s := fun p hp => by rw [he2]; exact List.mem_append_left _ hp
          have hl2 : e2s.length ≤ 100000 := by omega
          clear he2 hLS hLS0
          have HPF := Lib.hid PF
          have HBF := Lib.hid (bl2 B5.out hI.bel)
          have Hmem := Lib.hid hmem
          clear hmem
          have z0 := cell_of_row _ _ 0 _ _ _ hbox
          have z1 := cell_of_row _ _ 1 _ _ _ hbox
          clear own hbox PF hI hall h8
          simp only [putAll, Act.put, List.setIfInBounds_toArray, List.set_cons_zero, List.set_cons_succ, Nat.zero_add, Nat.reduceAdd, h10]
          clear h10
          go_wp2_with fail
          refine (extensions_any n 1000 _ e2s _ HPF.out hl2).mono ?_
          rintro e w9 ⟨h1, hb9⟩
          have B9 := Lib.hid (KE.out _ (bl2 HBF.out hb9))
          clear hb9 z0 z1
          cases hv2 : valO n e2s with
          | false =>
            have hr : extR n e2s 1000 = (0, 1) := by unfold extR; rw [hv2]; rfl
            rw [hr] at h1
            subst h1
            clear hv2 hr
            go_wp2
            go_ret
            exact ⟨rfl, B9.out⟩
          | true =>
            rw [extR_ok hv2] at h1
            subst h1
            obtain ⟨_, _, hac2⟩ := valO_parts hv2
            have p1 := wys_pos hac2 n 0 (Un_all n)
            have p2 := wys_mono (n := n) (es := es) (es' := e2s) Hmem.out n 0
            have hq := Hq.out
            obtain ⟨r, hr⟩ : ∃ r : Int, r = min 1000 ((wys (psts (n : Int) e2s) n 0 : Nat) : Int) := ⟨_, rfl⟩
            have r1 : decide (r ≤ q) = true := decide_eq_true (by omega)
            have r2 : decide (1 ≤ r) = true := decide_eq_true (by omega)
            rw [← hr]
            clear hv2 hac2 p1 p2 hq hr
            go_wp2
            go_ret
            exact ⟨rfl, B9.out⟩
end Go.Proofs.Ytcekfgahhicdcaa
