/- The reference's exists, Valid, Before and Concurrent. -/
import Derived.Test.YtcekfgahhicdcaaOrdBeh
import Derived.Test.YtcekfgahhicdcaaOrdCon
namespace Go.Proofs.Ytcekfgahhicdcaa
open Go.RowKit

theorem rexists_any (N x : Int) (v : Value) (w : World) : Calls Try.prog 37 #[.agg #[.int .i64 N, v], .int .i64 x] w fun e w' => e = .returned (.bool (inB N x)) ∧ Below w.heap.size w w' := by
  by_cases h0 : 0 ≤ x
  · go_enter Try.func37, Try.ntmps37
    go_wp2
    go_ret
    exact ⟨ret_b (by unfold inB; rw [decide_eq_true h0, Bool.true_and]), (Below.refl _ w).alloc (Nat.le_refl _) _⟩
  · go_enter Try.func37, Try.ntmps37
    go_wp2
    go_ret
    exact ⟨ret_b (by unfold inB; rw [decide_eq_false (by omega), Bool.false_and]), (Below.refl _ w).alloc (Nat.le_refl _) _⟩
set_option maxRecDepth 20000 in
set_option maxHeartbeats 4000000 in
theorem rvalid_any (N : Int) (v : Value) (es : List (Int × Int)) (w : World) (h : Prs w v es) (hl : es.length ≤ 100000) : Calls Try.prog 14 #[.agg #[.int .i64 N, v]] w fun e w' => e = .returned (.bool (valO N es)) ∧ Below w.heap.size w w' := by
  obtain ⟨A, c, rfl⟩ := h.shape
  have H := Lib.hid h
  clear h
  obtain ⟨R, hR⟩ : ∃ R, R = valO N es := ⟨_, rfl⟩
  rw [← hR]
  have HR := Lib.hid hR; clear hR
  by_cases h0 : N < 0
  · have hr : R = false := HR.out.trans (valO_range (fun h => by omega))
    subst hr
    go_enter Try.func14, Try.ntmps14
    go_wp2
    go_ret
    exact ⟨rfl, below_alloc _ _⟩
  by_cases h1 : 60 < N
  · have hr : R = false := HR.out.trans (valO_range (fun h => by omega))
    subst hr
    go_enter Try.func14, Try.ntmps14
    go_wp2
    go_ret
    exact ⟨rfl, below_alloc _ _⟩
  by_cases h2 : 3600 < es.length
  · have hr : R = false := HR.out.trans (valO_range (fun h => by omega))
    subst hr
    go_enter Try.func14, Try.ntmps14
    go_wp2
    go_ret
    exact ⟨rfl, below_alloc _ _⟩
  obtain ⟨n, rfl⟩ : ∃ n : Nat, N = n := ⟨N.toNat, by omega⟩
  have hn : n ≤ 60 := by omega
  have Hrng : Hid (0 ≤ (n : Int) ∧ (n : Int) ≤ 60 ∧ es.length ≤ 3600) := Lib.hid ⟨by omega, by omega, by omega⟩
  have d0 : decide ((n : Int) < 0) = false := decide_eq_false h0
  have d1 : decide (60 < (n : Int)) = false := decide_eq_false h1
  have d2 : decide (3600 < (es.length : Int)) = false := decide_eq_false (by omega)
  obtain ⟨W, hW⟩ : ∃ W, W = w.alloc (.cells #[.int .i64 (n : Int), .slice A es.length c] 24) := ⟨_, rfl⟩
  have hWs : w.heap.size < W.heap.size := by rw [hW]; simp
  have hWb : W.heap[w.heap.size]? = some (.cells #[.int .i64 (n : Int), .slice A es.length c] 24 (0, 0)) := by rw [hW]; exact heap_alloc_new w _
  have hbw : Below w.heap.size w W := by rw [hW]; exact below_alloc _ _
  have KX := Lib.hid (show ∀ w', Below W.heap.size W w' → w'.heap[w.heap.size]? = some (.cells #[.int .i64 (n : Int), .slice A es.length c] 24 (0, 0)) from fun w' h => (h.block _ hWs).trans hWb)
  have KB := Lib.hid (show ∀ w', Below W.heap.size W w' → Below w.heap.size w w' from fun w' h => hbw.trans (h.mono (Nat.le_of_lt hWs)))
  have HP := Lib.hid (show ∀ w', Below W.heap.size W w' → Prs w' (.slice A es.length c) es from fun w' h' => H.out.below (KB.out _ h'))
  have HW := Lib.hid hW
  have hx := hWb
  rw [hW] at hx
  have x0 := cell_of_row _ _ 0 _ _ _ hx
  have x1 := cell_of_row _ _ 1 _ _ _ hx
  clear hWb hbw hW h0 h1 h2
  go_enter Try.func14, Try.ntmps14
  go_wp2
  rw [← HW.out]
  clear hx x0 x1
  go_loopw [3] (fun i wr => ∃ m : Nat, m ≤ es.length ∧ i = .int .i64 m ∧ Hid (∀ p ∈ es.take m, inB n p.1 = true ∧ inB n p.2 = true) ∧ ∃ q, wr = W.drewN q) (fun i _ => es.length - (intOf i).toNat)
  case atStart => exact ⟨0, Nat.zero_le _, rfl, Lib.hid (by simp), 0, rfl⟩
  case round =>
    obtain ⟨m, hm, rfl, Hall, q, rfl⟩ := hrel
    have Hb : Hid (Below W.heap.size W (W.drewN q)) := Lib.hid (Below.drewNs W q)
    have hx := KX.out _ (Below.refl _ W)
    have x0 := cell_of_row _ _ 0 _ _ _ hx
    have x1 := cell_of_row _ _ 1 _ _ _ hx
    by_cases hlm : m < es.length
    · obtain ⟨ad, c', hs, hcap, hc1, hc2⟩ := prs_cell (HP.out _ (Below.refl _ W)) m hlm
      simp only [Value.slice.injEq, true_and] at hs
      obtain ⟨rfl, rfl⟩ := hs
      have Hmem := Lib.hid (List.getElem_mem hlm)
      obtain ⟨p, hp⟩ : ∃ p, p = es[m] := ⟨_, rfl⟩
      rw [← hp] at hc1 hc2 Hmem
      have Hpe := Lib.hid hp.symm
      clear hp
      obtain ⟨a, b⟩ := p
      dsimp only at hc1 hc2
      have m0 : (0 : Int) ≤ (m : Int) := by omega
      have m1 : (m : Int) < (es.length : Int) := by omega
      go_wp2
      go_loopw [4] (fun i wr => ∃ j : Nat, j ≤ 2 ∧ i = .int .i64 j ∧ Hid ((0 < j → inB n a = true) ∧ (1 < j → inB n b = true)) ∧ ∃ q, wr = W.drewN q) (fun i _ => 2 - (intOf i).toNat)
      case atStart => exact ⟨0, Nat.zero_le _, rfl, Lib.hid ⟨fun h => absurd h (Nat.lt_irrefl 0), fun h => absurd h (Nat.not_lt_zero 1)⟩, q, rfl⟩
      case round =>
        obtain ⟨j, hj, rfl, Hin, q2, rfl⟩ := hrel
        rcases (by omega : j = 0 ∨ j = 1 ∨ j = 2) with rfl | rfl | rfl
        · clear Hin
          by_cases h0 : 0 ≤ a
          · by_cases h1 : a < (n : Int)
            · have e0 : decide (a < 0) = false := decide_eq_false (by omega)
              have e1 : decide ((n : Int) ≤ a) = false := decide_eq_false (by omega)
              go_wp2_with fail
              go_quiet (fail)
              go_wp2
              go_roundw
              case rel => exact ⟨1, by omega, by go_num, Lib.hid ⟨fun _ => inB_iff.2 ⟨h0, h1⟩, fun h => absurd h (by omega)⟩, q2 + nq, rfl⟩
              case measure => simp [intOf]
            · have hr : R = false := HR.out.trans (valO_edge Hmem.out (by rw [show inB n a = false from Bool.eq_false_iff.2 (fun h => by have := inB_iff.1 h; omega)]; simp))
              have e0 : decide (a < 0) = false := decide_eq_false (by omega)
              have e1 : decide ((n : Int) ≤ a) = true := decide_eq_true (by omega)
              subst hr
              go_wp2_with fail
              go_quiet (fail)
              go_wp2
              go_ret
              exact ⟨rfl, KB.out _ ⟨rfl, rfl, rfl, Nat.le_refl _, fun _ _ => rfl⟩⟩
          · have hr : R = false := HR.out.trans (valO_edge Hmem.out (by rw [show inB n a = false from Bool.eq_false_iff.2 (fun h => by have := inB_iff.1 h; omega)]; simp))
            have e0 : decide (a < 0) = true := decide_eq_true (by omega)
            subst hr
            go_wp2_with fail
            go_quiet (fail)
            go_wp2
            go_ret
            exact ⟨rfl, KB.out _ ⟨rfl, rfl, rfl, Nat.le_refl _, fun _ _ => rfl⟩⟩
        · by_cases h0 : 0 ≤ b
          · by_cases h1 : b < (n : Int)
            · have e0 : decide (b < 0) = false := decide_eq_false (by omega)
              have e1 : decide ((n : Int) ≤ b) = false := decide_eq_false (by omega)
              go_wp2_with fail
              go_quiet (fail)
              go_wp2
              go_roundw
              case rel => exact ⟨2, by omega, by go_num, Lib.hid ⟨fun _ => Hin.out.1 (by omega), fun _ => inB_iff.2 ⟨h0, h1⟩⟩, q2 + nq, rfl⟩
              case measure => simp [intOf]
            · have hr : R = false := HR.out.trans (valO_edge Hmem.out (by rw [show inB n b = false from Bool.eq_false_iff.2 (fun h => by have := inB_iff.1 h; omega)]; simp))
              have e0 : decide (b < 0) = false := decide_eq_false (by omega)
              have e1 : decide ((n : Int) ≤ b) = true := decide_eq_true (by omega)
              subst hr
              go_wp2_with fail
              go_quiet (fail)
              go_wp2
              go_ret
              exact ⟨rfl, KB.out _ ⟨rfl, rfl, rfl, Nat.le_refl _, fun _ _ => rfl⟩⟩
          · have hr : R = false := HR.out.trans (valO_edge Hmem.out (by rw [show inB n b = false from Bool.eq_false_iff.2 (fun h => by have := inB_iff.1 h; omega)]; simp))
            have e0 : decide (b < 0) = true := decide_eq_true (by omega)
            subst hr
            go_wp2_with fail
            go_quiet (fail)
            go_wp2
            go_ret
            exact ⟨rfl, KB.out _ ⟨rfl, rfl, rfl, Nat.le_refl _, fun _ _ => rfl⟩⟩
        · have Hall2 := Lib.hid (take_all2 hlm Hall.out ⟨Hin.out.1 (by omega), Hin.out.2 (by omega)⟩ Hpe.out)
          go_wp2
          go_roundw
          case rel => exact ⟨m + 1, by omega, by go_num, Hall2, q2, rfl⟩
          case measure => simp [intOf]; omega
    · obtain rfl : m = es.length := by omega
      have Hall2 := Lib.hid (show ∀ p ∈ es, inB n p.1 = true ∧ inB n p.2 = true from fun p hp => Hall.out p (by rwa [List.take_length]))
      clear Hall
      go_wp2_with fail
      refine (behind_any n _ es _ (HP.out _ Hb.out) hl hn Hall2.out).mono ?_
      rintro e w2 ⟨g, rfl, hb2, hM⟩
      have HM := Lib.hid hM
      have Hb2 := Lib.hid (bl2 Hb.out hb2)
      clear hb2 hM hx x0 x1
      have hx := KX.out _ Hb2.out
      have x0 := cell_of_row _ _ 0 _ _ _ hx
      go_wp2
      go_loopw [6] (fun i wr => ∃ k : Nat, k ≤ n ∧ i = .int .i64 k ∧ wr = w2 ∧ Hid (∀ j, j < k → Bf n es j j = false)) (fun i _ => n - (intOf i).toNat)
      case atStart => exact ⟨0, Nat.zero_le _, rfl, rfl, Lib.hid (fun j h => absurd h (Nat.not_lt_zero j))⟩
      case round =>
        obtain ⟨k, hk, rfl, rfl, Hcy⟩ := hrel
        by_cases hlt : k < n
        · have co := HM.out.cellO hlt
          have ci := HM.out.cellI hlt hlt
          have k0 : (0 : Int) ≤ (k : Int) := by omega
          have k1 : (k : Int) < (n : Int) := by omega
          cases hb : Bf n es k k with
          | true =>
            rw [hb] at ci
            have hr : R = false := HR.out.trans (valO_cyc (N := (n : Int)) (by omega) hb)
            subst hr
            clear hb
            go_wp2
            go_ret
            exact ⟨rfl, KB.out _ Hb2.out⟩
          | false =>
            rw [hb] at ci
            have Hcy2 := Lib.hid (show ∀ j, j < k + 1 → Bf n es j j = false from fun j hj => by
              by_cases e : j = k
              · rw [e]; exact hb
              · exact Hcy.out j (by omega))
            clear hb
            go_wp2
            go_roundw
            case rel => exact ⟨k + 1, by omega, by go_num, (by first | rfl | trivial), Hcy2⟩
            case measure => simp [intOf]; omega
        · obtain rfl : k = n := by omega
          have hr : R = true := HR.out.trans (valO_ok (N := (k : Int)) (es := es) Hrng.out Hall2.out (fun j hj => Hcy.out j (by omega)))
          subst hr
          go_wp2
          go_ret
          exact ⟨rfl, KB.out _ Hb2.out⟩
end Go.Proofs.Ytcekfgahhicdcaa
