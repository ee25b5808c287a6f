/- The reference's Same on two orders with the same edges. -/
import Derived.Test.YtcekfgahhicdcaaOrdRht
namespace Go.Proofs.Ytcekfgahhicdcaa
open Go.RowKit

theorem eq_pair_d (d : Nat) (x y : Int) (w : World) : (Op.equalIn (d + 1 + 1) 50 (.agg #[.int .i64 x, .int .i64 y]) (.agg #[.int .i64 x, .int .i64 y])).run Try.prog w = .ok true w := by
  have h1 : Try.prog.underlying 50 = some (.array 2 3) := Try.underlying50
  have h2 : Try.prog.underlying 3 = some (.int .i64) := Try.underlying3
  rw [Op.equalIn]
  simp only [Sem.run_bind, run_underlying h1, Result.andThen_ok]
  simp [go_sem, Std.Legacy.Range.forIn_eq_forIn_range', List.range']
theorem eq_pair (x y : Int) (w : World) : (Op.equalIn 10000 50 (.agg #[.int .i64 x, .int .i64 y]) (.agg #[.int .i64 x, .int .i64 y])).run Try.prog w = .ok true w := eq_pair_d 9998 x y w
set_option maxRecDepth 20000 in
set_option maxHeartbeats 4000000 in
theorem osame_any (N : Int) (v1 v2 : Value) (es : List (Int × Int)) (w : World) (h1 : Prs w v1 es) (h2 : Prs w v2 es) (hl : es.length ≤ 100000) : Calls Try.prog 32 #[.agg #[.int .i64 N, v1], .agg #[.int .i64 N, v2]] w fun e w' => e = .returned (.bool true) ∧ Below w.heap.size w w' := by
  have b1 := below_alloc w (.cells #[.int .i64 N, v1] 24)
  have b2 := below_alloc (w.alloc (.cells #[.int .i64 N, v1] 24)) (.cells #[.int .i64 N, v2] 24)
  have g1 := (b2.block _ (by simp)).trans (heap_alloc_new w (.cells #[.int .i64 N, v1] 24))
  have g2 := heap_alloc_new (w.alloc (.cells #[.int .i64 N, v1] 24)) (.cells #[.int .i64 N, v2] 24)
  rw [show (w.alloc (.cells #[.int .i64 N, v1] 24)).heap.size = w.heap.size + 1 by simp] at g2
  have hb0 := b1.trans (b2.mono (by simp))
  have hs : ((w.alloc (.cells #[.int .i64 N, v1] 24)).alloc (.cells #[.int .i64 N, v2] 24)).heap.size = w.heap.size + 2 := by simp
  obtain ⟨W, hW⟩ : ∃ W, W = ((w.alloc (.cells #[.int .i64 N, v1] 24)).alloc (.cells #[.int .i64 N, v2] 24)) := ⟨_, rfl⟩
  rw [← hW] at g1 g2 hb0 hs
  have HW := Lib.hid hW
  have Hb0 := Lib.hid hb0
  have H1 := Lib.hid h1; have H2 := Lib.hid h2
  have KX := Lib.hid (show ∀ w', Below W.heap.size W w' → w'.heap[w.heap.size]? = some (.cells #[.int .i64 N, v1] 24 (0, 0)) ∧ w'.heap[w.heap.size + 1]? = some (.cells #[.int .i64 N, v2] 24 (0, 0)) from fun w' h => ⟨(h.block _ (by omega)).trans g1, (h.block _ (by omega)).trans g2⟩)
  clear hW b1 b2 g1 g2 hb0 hs
  obtain ⟨A1, c1, rfl⟩ := h1.shape
  obtain ⟨A2, c2, rfl⟩ := h2.shape
  clear h1 h2
  have hxx := KX.out _ (Below.refl _ W)
  have x0 := cell_of_row _ _ 0 _ _ _ hxx.1
  have x1 := cell_of_row _ _ 1 _ _ _ hxx.1
  have z0 := cell_of_row _ _ 0 _ _ _ hxx.2
  have z1 := cell_of_row _ _ 1 _ _ _ hxx.2
  clear hxx
  rw [HW.out] at x0 x1 z0 z1
  go_enter Try.func32, Try.ntmps32
  go_wp2_with fail
  rw [← HW.out]
  clear x0 x1 z0 z1
  go_loopw [5] (fun kv wr => ∃ k : Nat, k ≤ es.length ∧ kv = .int .i64 k ∧ Hid (Below W.heap.size W wr)) (fun kv _ => es.length - (intOf kv).toNat)
  case atStart => exact ⟨0, Nat.zero_le _, rfl, Lib.hid (Below.refl _ _)⟩
  case round =>
    obtain ⟨k, hk, rfl, Hb⟩ := hrel
    have hxx := KX.out _ Hb.out
    have x1 := cell_of_row _ _ 1 _ _ _ hxx.1
    have z1 := cell_of_row _ _ 1 _ _ _ hxx.2
    clear hxx
    by_cases hlk : k < es.length
    · obtain ⟨ad1, c', hsl, _, fad10, fad11⟩ := prs_cell (H1.out.below (bl2 Hb0.out Hb.out)) k hlk
      simp only [Value.slice.injEq, true_and] at hsl
      obtain ⟨rfl, rfl⟩ := hsl
      obtain ⟨ad2, c', hsl, _, fad20, fad21⟩ := prs_cell (H2.out.below (bl2 Hb0.out Hb.out)) k hlk
      simp only [Value.slice.injEq, true_and] at hsl
      obtain ⟨rfl, rfl⟩ := hsl
      generalize es[k].1 = x at *
      generalize es[k].2 = y at *
      have k0 : (0 : Int) ≤ (k : Int) := by omega
      have k1 : (k : Int) < (es.length : Int) := by omega
      go_wp2_with fail
      refine region_inv (n := 38) (RdQ (fun zz => match zz with | 0 => .pointer (some ⟨w.heap.size, 1, none⟩) | 1 => .slice (some ad1) es.length c1 | 2 => .int .i64 (k : Int) | 3 => .pointer (some (ad1.add (k * 2))) | 4 => .agg #[.int .i64 x, .int .i64 y] | 5 => .pointer (some ⟨w.heap.size + 1, 1, none⟩) | 6 => .slice (some ad2) es.length c2 | 7 => .int .i64 (k : Int) | 8 => .pointer (some (ad2.add (k * 2))) | 9 => .agg #[.int .i64 x, .int .i64 y] | 10 => .bool false | _ => undef) (wr.drew)) (by kernel_rfl) (by kernel_rfl) rfl ?_ (allOps_spec ?_) ?_
      · intro vs
        exact RdQ.start
      · refine ⟨?_, ?_, ?_, ?_, ?_, ?_, ?_, ?_, ?_, ?_, ?_, trivial⟩
        · intro L vs a w6 hB hL hd hI
          have b2 : a.tmps[2]?.getD undef = .pointer (some ⟨w.heap.size, 0, none⟩) := hB.at 2 (by kernel_rfl)
          exact stepI_run (v := .pointer (some ⟨w.heap.size, 1, none⟩)) rfl (by simp [execOp, go_sem, Act.eval, b2]) (hI.step 0 rfl)
        · intro L vs a w6 hB hL hd hI
          have b27 : a.tmps[27]?.getD undef = .pointer (some ⟨w.heap.size, 1, none⟩) := (hB.val 0 (hd ⟨0, .data⟩ (by simp) rfl) 27 rfl).trans (hI.1 0 (hd ⟨0, .data⟩ (by simp) rfl))
          have hx1 : w6.cell? ⟨w.heap.size, 1, none⟩ = some (.slice (some ad1) es.length c1) := by rw [hI.2]; exact x1
          exact stepI_run (v := .slice (some ad1) es.length c1) rfl (by simp [execOp, go_sem, Act.eval, b27, hx1]) (hI.step 1 rfl)
        · intro L vs a w6 hB hL hd hI
          have b5 : a.tmps[5]?.getD undef = .int .i64 (k : Int) := hB.at 5 (by kernel_rfl)
          exact stepI_run (v := .int .i64 (k : Int)) rfl (by simp [execOp, go_sem, Act.eval, b5]) (hI.step 2 rfl)
        · intro L vs a w6 hB hL hd hI
          have b28 : a.tmps[28]?.getD undef = .slice (some ad1) es.length c1 := (hB.val 1 (hd ⟨1, .data⟩ (by simp) rfl) 28 rfl).trans (hI.1 1 (hd ⟨1, .data⟩ (by simp) rfl))
          have b29 : a.tmps[29]?.getD undef = .int .i64 (k : Int) := (hB.val 2 (hd ⟨2, .data⟩ (by simp) rfl) 29 rfl).trans (hI.1 2 (hd ⟨2, .data⟩ (by simp) rfl))
          exact stepI_run (v := .pointer (some (ad1.add (k * 2)))) rfl (by simp [execOp, go_sem, Act.eval, b28, b29, k0, k1]) (hI.step 3 rfl)
        · intro L vs a w6 hB hL hd hI
          have b30 : a.tmps[30]?.getD undef = .pointer (some (ad1.add (k * 2))) := (hB.val 3 (hd ⟨3, .data⟩ (by simp) rfl) 30 rfl).trans (hI.1 3 (hd ⟨3, .data⟩ (by simp) rfl))
          have had10 : w6.cell? (ad1.add (k * 2)) = some (.int .i64 x) := by rw [hI.2]; exact fad10
          have had11 : w6.cell? ⟨(ad1.add (k * 2)).block, (ad1.add (k * 2)).off + 1, none⟩ = some (.int .i64 y) := by rw [hI.2]; exact fad11
          exact stepI_run (v := .agg #[.int .i64 x, .int .i64 y]) rfl (by simp [execOp, go_sem, Act.eval, b30, had10, had11]) (hI.step 4 rfl)
        · intro L vs a w6 hB hL hd hI
          have b3 : a.tmps[3]?.getD undef = .pointer (some ⟨w.heap.size + 1, 0, none⟩) := hB.at 3 (by kernel_rfl)
          exact stepI_run (v := .pointer (some ⟨w.heap.size + 1, 1, none⟩)) rfl (by simp [execOp, go_sem, Act.eval, b3]) (hI.step 5 rfl)
        · intro L vs a w6 hB hL hd hI
          have b32 : a.tmps[32]?.getD undef = .pointer (some ⟨w.heap.size + 1, 1, none⟩) := (hB.val 5 (hd ⟨5, .data⟩ (by simp) rfl) 32 rfl).trans (hI.1 5 (hd ⟨5, .data⟩ (by simp) rfl))
          have hz1 : w6.cell? ⟨w.heap.size + 1, 1, none⟩ = some (.slice (some ad2) es.length c2) := by rw [hI.2]; exact z1
          exact stepI_run (v := .slice (some ad2) es.length c2) rfl (by simp [execOp, go_sem, Act.eval, b32, hz1]) (hI.step 6 rfl)
        · intro L vs a w6 hB hL hd hI
          have b5 : a.tmps[5]?.getD undef = .int .i64 (k : Int) := hB.at 5 (by kernel_rfl)
          exact stepI_run (v := .int .i64 (k : Int)) rfl (by simp [execOp, go_sem, Act.eval, b5]) (hI.step 7 rfl)
        · intro L vs a w6 hB hL hd hI
          have b33 : a.tmps[33]?.getD undef = .slice (some ad2) es.length c2 := (hB.val 6 (hd ⟨6, .data⟩ (by simp) rfl) 33 rfl).trans (hI.1 6 (hd ⟨6, .data⟩ (by simp) rfl))
          have b34 : a.tmps[34]?.getD undef = .int .i64 (k : Int) := (hB.val 7 (hd ⟨7, .data⟩ (by simp) rfl) 34 rfl).trans (hI.1 7 (hd ⟨7, .data⟩ (by simp) rfl))
          exact stepI_run (v := .pointer (some (ad2.add (k * 2)))) rfl (by simp [execOp, go_sem, Act.eval, b33, b34, k0, k1]) (hI.step 8 rfl)
        · intro L vs a w6 hB hL hd hI
          have b35 : a.tmps[35]?.getD undef = .pointer (some (ad2.add (k * 2))) := (hB.val 8 (hd ⟨8, .data⟩ (by simp) rfl) 35 rfl).trans (hI.1 8 (hd ⟨8, .data⟩ (by simp) rfl))
          have had20 : w6.cell? (ad2.add (k * 2)) = some (.int .i64 x) := by rw [hI.2]; exact fad20
          have had21 : w6.cell? ⟨(ad2.add (k * 2)).block, (ad2.add (k * 2)).off + 1, none⟩ = some (.int .i64 y) := by rw [hI.2]; exact fad21
          exact stepI_run (v := .agg #[.int .i64 x, .int .i64 y]) rfl (by simp [execOp, go_sem, Act.eval, b35, had20, had21]) (hI.step 9 rfl)
        · intro L vs a w6 hB hL hd hI
          have b31 : a.tmps[31]?.getD undef = .agg #[.int .i64 x, .int .i64 y] := (hB.val 4 (hd ⟨4, .data⟩ (by simp) rfl) 31 rfl).trans (hI.1 4 (hd ⟨4, .data⟩ (by simp) rfl))
          have b36 : a.tmps[36]?.getD undef = .agg #[.int .i64 x, .int .i64 y] := (hB.val 9 (hd ⟨9, .data⟩ (by simp) rfl) 36 rfl).trans (hI.1 9 (hd ⟨9, .data⟩ (by simp) rfl))
          exact stepI_run (v := .bool false) rfl (by simp [execOp, go_sem, Act.eval, b31, b36, eq_pair]) (hI.step 10 rfl)
      · intro L vs w6 hall hI
        have h10 := hI.1 10 (hall 10 (by decide))
        have hw6 := hI.2
        subst hw6
        clear hI hall
        simp only [putAll, Act.put, List.setIfInBounds_toArray, List.set_cons_zero, List.set_cons_succ, Nat.zero_add, Nat.reduceAdd, h10]
        clear h10
        go_wp2
        go_roundw
        case rel => exact ⟨k + 1, by omega, by go_num, Lib.hid (bl_drew Hb.out)⟩
        case measure => simp [intOf]; omega
    · obtain rfl : k = es.length := by omega
      go_wp2
      go_ret
      exact ⟨rfl, bl2 Hb0.out Hb.out⟩
end Go.Proofs.Ytcekfgahhicdcaa
