/- The reference's table of what is behind what. -/
import Derived.Test.YtcekfgahhicdcaaOrdMx
import Derived.Test.YtcekfgahhicdcaaOrdVal
namespace Go.Proofs.Ytcekfgahhicdcaa
open Go.RowKit

def BhP (n : Nat) (es : List (Int × Int)) (w : World) (e : Ending) (w' : World) : Prop := ∃ g, e = .returned (.slice (some ⟨g, 0, none⟩) n n) ∧ Below w.heap.size w w' ∧ Mx g n (fun i j => Bf n es i j) w'
theorem info_bools : (Try.prog.info? 59).map (fun i => (i.zero, i.size, i.bytes)) = some (some (.slice none 0 0), 1, 24) := by kernel_rfl
theorem info_bool : (Try.prog.info? 4).map (fun i => (i.zero, i.size, i.bytes)) = some (some (.bool false), 1, 1) := by kernel_rfl
/-- While the rows are made. -/
structure Mk (g n k : Nat) (w : World) : Prop where
  out : w.rowIs g 59 n (fun i => if i < k then .slice (some ⟨g + 1 + i, 0, none⟩) n n else .slice none 0 0)
  row : ∀ i, i < k → w.rowIs (g + 1 + i) 4 n (fun _ => .bool false)
  size : w.heap.size = g + 1 + k
theorem Mk.start (w : World) (n : Nat) : Mk w.heap.size n 0 (w.alloc (.cells (madeCells #[.slice none 0 0] n) 59)) :=
  ⟨(World.rowIs_made w _ n _).congr fun i _ => by simp, fun i hi => absurd hi (Nat.not_lt_zero i), by simp⟩
theorem Mk.next {g n k : Nat} {w : World} (h : Mk g n k w) : Mk g n (k + 1) ((w.alloc (.cells (madeCells #[.bool false] n) 4)).setCell ⟨g, k, none⟩ (.slice (some ⟨w.heap.size, 0, none⟩) n n)) := by
  refine ⟨((h.out.alloc _).set k _).congr fun i _ => ?_, fun i hi => ?_, by simp [World.setCell, h.size]; omega⟩
  · by_cases e : i = k
    · subst e; rw [if_pos rfl, if_pos (by omega), h.size]
    · rw [if_neg e]
      by_cases h1 : i < k
      · rw [if_pos h1, if_pos (by omega)]
      · rw [if_neg h1, if_neg (by omega)]
  · refine World.rowIs.setOther ?_ (by show g + 1 + i ≠ g; omega) _
    by_cases e : i = k
    · subst e
      rw [← h.size]
      exact World.rowIs_made w _ n _
    · exact (h.row i (by omega)).alloc _
theorem Mk.done {g n : Nat} {w : World} (h : Mk g n n w) (es : List (Int × Int)) : Mx g n (Eg (es.take 0)) w :=
  ⟨h.out.congr fun i hi => by rw [if_pos hi], fun i hi => (h.row i hi).congr fun j _ => by simp [Eg]⟩
theorem Mk.cell {g n k : Nat} {w : World} (h : Mk g n k w) (hk : k < n) : (w.alloc (.cells (madeCells #[.bool false] n) 4)).cell? ⟨g, k, none⟩ = some (.slice none 0 0) := by
  have := (h.out.alloc (.cells (madeCells #[.bool false] n) 4)).cell hk
  rwa [if_neg (Nat.lt_irrefl k)] at this
theorem Mk.froz {g n k : Nat} {w : World} (h : Mk g n k w) : (w.alloc (.cells (madeCells #[.bool false] n) 4)).frozen? ⟨g, k, none⟩ = false := (h.out.alloc _).frozen k
set_option maxRecDepth 20000 in
set_option maxHeartbeats 4000000 in
theorem behind_any (n : Nat) (v : Value) (es : List (Int × Int)) (w : World) (h : Prs w v es) (hl : es.length ≤ 100000) (hn : n ≤ 60) (he : ∀ p ∈ es, inB n p.1 = true ∧ inB n p.2 = true) : Calls Try.prog 34 #[.agg #[.int .i64 (n : Int), v]] w (BhP n es w) := by
  obtain ⟨A, c, rfl⟩ := h.shape
  obtain ⟨W, hW⟩ : ∃ W, W = w.alloc (.cells #[.int .i64 (n : Int), .slice A es.length c] 24) := ⟨_, rfl⟩
  have hWs : w.heap.size < W.heap.size := by rw [hW]; simp
  have hWb : W.heap[w.heap.size]? = some (.cells #[.int .i64 (n : Int), .slice A es.length c] 24 (0, 0)) := by rw [hW]; exact heap_alloc_new w _
  have hbw : Below w.heap.size w W := by rw [hW]; exact below_alloc _ _
  have KX := Lib.hid (show ∀ w', Below W.heap.size W w' → w'.heap[w.heap.size]? = some (.cells #[.int .i64 (n : Int), .slice A es.length c] 24 (0, 0)) from fun w' h => (h.block _ hWs).trans hWb)
  have KB := Lib.hid (show ∀ w', Below W.heap.size W w' → Below w.heap.size w w' from fun w' h => hbw.trans (h.mono (Nat.le_of_lt hWs)))
  have HP := Lib.hid (show ∀ w', Below W.heap.size W w' → Prs w' (.slice A es.length c) es from fun w' h' => h.below (KB.out _ h'))
  have He := Lib.hid he
  have HW := Lib.hid hW
  have Hst := Lib.hid (Mk.start W n)
  have Hbs := Lib.hid (below_alloc W (.cells (madeCells #[.slice none 0 0] n) 59))
  obtain ⟨i0, hi0, hz0, hz1, hz2⟩ := info_parts info_bools
  obtain ⟨j0, hj0, hy0, hy1, hy2⟩ := info_parts info_bool
  clear hWb hbw hW h he
  go_enter Try.func34, Try.ntmps34
  go_wp2_with (at_make; rw [← HW.out]; refine wpList_make_row _ rfl _ _ 57 rfl 59 i0 (.slice none 0 0) (by kernel_rfl) hi0 hz0 hz1 rfl .i64 .i64 n rfl rfl (by rw [hz2]; omega) (by omega) ?_)
  generalize hw1 : W.alloc (.cells (madeCells #[.slice none 0 0] n) 59) = w1 at *
  clear hw1
  have hx := KX.out _ Hbs.out
  have x0 := cell_of_row _ _ 0 _ _ _ hx
  go_loopw [4] (fun i wr => ∃ k : Nat, k ≤ n ∧ i = .int .i64 k ∧ Hid (Mk W.heap.size n k wr) ∧ Hid (Below W.heap.size W wr)) (fun i _ => n - (intOf i).toNat)
  case atStart => exact ⟨0, Nat.zero_le _, rfl, Hst, Hbs⟩
  case round =>
    clear hx x0 Hst Hbs
    obtain ⟨k, hk, rfl, Hm, Hb⟩ := hrel
    have hx := KX.out _ Hb.out
    have x0 := cell_of_row _ _ 0 _ _ _ hx
    by_cases hlt : k < n
    · have hc := Hm.out.cell hlt
      have hf := Hm.out.froz
      have Hn := Lib.hid Hm.out.next
      have k0 : (0 : Int) ≤ (k : Int) := by omega
      have k1 : (k : Int) < (n : Int) := by omega
      have Hb2 : Hid (Below W.heap.size W ((wr.alloc (.cells (madeCells #[.bool false] n) 4)).setCell ⟨W.heap.size, k, none⟩ (.slice (some ⟨wr.heap.size, 0, none⟩) n n))) := Lib.hid ((Hb.out.alloc Hb.out.size _).setCell (p := ⟨W.heap.size, k, none⟩) (Nat.le_refl _) _)
      go_wp2_with (at_make; refine wpList_make_row _ rfl _ _ 59 rfl 4 j0 (.bool false) (by kernel_rfl) hj0 hy0 hy1 rfl .i64 .i64 n rfl rfl (by rw [hy2]; omega) (by omega) ?_)
      go_roundw
      case rel => exact ⟨k + 1, by omega, by go_num, Hn, Hb2⟩
      case measure => simp [intOf]; omega
    · obtain rfl : n = k := by omega
      have HM := Lib.hid (Hm.out.done es)
      have x1 := cell_of_row _ _ 1 _ _ _ hx
      clear Hm hk
      go_wp2
      go_loopw [5] (fun i wr => ∃ m : Nat, m ≤ es.length ∧ i = .int .i64 m ∧ Hid (Mx W.heap.size n (Eg (es.take m)) wr) ∧ Hid (Below W.heap.size W wr)) (fun i _ => es.length - (intOf i).toNat)
      case atStart => exact ⟨0, Nat.zero_le _, rfl, HM, Hb⟩
      case round =>
        clear hx x0 x1 HM Hb
        obtain ⟨m, hm, rfl, HM, Hb⟩ := hrel
        have hx := KX.out _ Hb.out
        have x0 := cell_of_row _ _ 0 _ _ _ hx
        have x1 := cell_of_row _ _ 1 _ _ _ hx
        by_cases hlm : m < es.length
        · obtain ⟨ad, c', hs, hcap, hc1, hc2⟩ := prs_cell (HP.out _ Hb.out) m hlm
          simp only [Value.slice.injEq, true_and] at hs
          obtain ⟨rfl, rfl⟩ := hs
          obtain ⟨g1, g2⟩ := He.out _ (List.getElem_mem hlm)
          obtain ⟨p, hp⟩ : ∃ p, p = es[m] := ⟨_, rfl⟩
          rw [← hp] at hc1 hc2 g1 g2
          obtain ⟨a, b⟩ := p
          dsimp only at hc1 hc2 g1 g2
          obtain ⟨a0, a1⟩ := inB_iff.1 g1
          obtain ⟨b0, b1⟩ := inB_iff.1 g2
          obtain ⟨a, rfl⟩ : ∃ q : Nat, a = q := ⟨a.toNat, by omega⟩
          obtain ⟨b, rfl⟩ : ∃ q : Nat, b = q := ⟨b.toNat, by omega⟩
          have ha : a < n := by omega
          have hb : b < n := by omega
          have Hn := Lib.hid ((HM.out.set a b true).congr (M' := Eg (es.take (m + 1))) (fun i _ j _ => Eg_step hlm hp.symm i j))
          have co := HM.out.cellO ha
          have ci := HM.out.cellI ha hb
          have cf := HM.out.froz ha b
          have m0 : (0 : Int) ≤ (m : Int) := by omega
          have m1 : (m : Int) < (es.length : Int) := by omega
          generalize Eg (es.take m) a b = bb at ci
          clear g1 g2 hp
          go_wp2_with fail
          go_still_tail 16, (by kernel_rfl)
          go_wp2_with fail
          go_roundw
          case rel => exact ⟨m + 1, by omega, by go_num, Lib.hid Hn.out.drew, Lib.hid (bl_drew (Hb.out.setCell (p := ⟨W.heap.size + 1 + a, b, none⟩) (by show W.heap.size ≤ W.heap.size + 1 + a; omega) _))⟩
          case measure => simp [intOf]; omega
        · obtain rfl : m = es.length := by omega
          have HM0 : Hid (Mx W.heap.size n (Lv (Eg es) 0 0 0) wr) := Lib.hid (HM.out.congr fun i _ j _ => by rw [List.take_length, Lv_first])
          clear HM
          go_wp2
          go_loopw [6] (fun i wr => ∃ k : Nat, k ≤ n ∧ i = .int .i64 k ∧ Hid (Mx W.heap.size n (Lv (Eg es) k 0 0) wr) ∧ Hid (Below W.heap.size W wr)) (fun i _ => n - (intOf i).toNat)
          case atStart => exact ⟨0, Nat.zero_le _, rfl, HM0, Hb⟩
          case round =>
            clear hx x0 x1 HM0 Hb
            obtain ⟨k, hk, rfl, HM, Hb⟩ := hrel
            have hx := KX.out _ Hb.out
            have x0 := cell_of_row _ _ 0 _ _ _ hx
            by_cases hlk : k < n
            · go_wp2
              go_loopw [7] (fun i wr => ∃ m : Nat, m ≤ n ∧ i = .int .i64 m ∧ Hid (Mx W.heap.size n (Lv (Eg es) k m 0) wr) ∧ Hid (Below W.heap.size W wr)) (fun i _ => n - (intOf i).toNat)
              case atStart => exact ⟨0, Nat.zero_le _, rfl, HM, Hb⟩
              case round =>
                clear hx x0 HM Hb
                obtain ⟨m, hm, rfl, HM, Hb⟩ := hrel
                have hx := KX.out _ Hb.out
                have x0 := cell_of_row _ _ 0 _ _ _ hx
                by_cases hlm : m < n
                · go_wp2
                  go_loopw [8] (fun i wr => ∃ j : Nat, j ≤ n ∧ i = .int .i64 j ∧ Hid (Mx W.heap.size n (Lv (Eg es) k m j) wr) ∧ Hid (Below W.heap.size W wr)) (fun i _ => n - (intOf i).toNat)
                  case atStart => exact ⟨0, Nat.zero_le _, rfl, HM, Hb⟩
                  case round =>
                    clear hx x0 HM Hb
                    obtain ⟨j, hj, rfl, HM, Hb⟩ := hrel
                    have hx := KX.out _ Hb.out
                    have x0 := cell_of_row _ _ 0 _ _ _ hx
                    by_cases hlj : j < n
                    · have co := HM.out.cellO hlm
                      have ck := HM.out.cellI hlm hlk
                      rw [Lv_col] at ck
                      have k0 : (0 : Int) ≤ (k : Int) := by omega
                      have k1 : (k : Int) < (n : Int) := by omega
                      have m0 : (0 : Int) ≤ (m : Int) := by omega
                      have m1 : (m : Int) < (n : Int) := by omega
                      have j0' : (0 : Int) ≤ (j : Int) := by omega
                      have j1' : (j : Int) < (n : Int) := by omega
                      cases hb0 : Pk (Eg es) k m k with
                      | false =>
                        rw [hb0] at ck
                        have HM2 : Hid (Mx W.heap.size n (Lv (Eg es) k (m + 1) 0) wr) := Lib.hid (HM.out.congr fun x _ y _ => Lv_skip hb0 x y)
                        clear hb0
                        go_wp2
                        go_roundw
                        case rel => exact ⟨m + 1, by omega, by go_num, HM2, Hb⟩
                        case measure => simp [intOf]; omega
                      | true =>
                        rw [hb0] at ck
                        have ca := HM.out.cellI hlm hlj
                        rw [Lv_here] at ca
                        have ck2 := HM.out.cellO hlk
                        have cb := HM.out.cellI hlk hlj
                        rw [Lv_row] at cb
                        have HX := Lib.hid (show ∀ w', Mx W.heap.size n (Lv (Eg es) k m j) w' → Mx W.heap.size n (Lv (Eg es) k m (j + 1)) (w'.setCell ⟨W.heap.size + 1 + m, j, none⟩ (.bool (Pk (Eg es) k m j || Pk (Eg es) k k j))) from fun w' h => (h.set m j _).congr fun x _ y _ => Lv_step hb0 x y)
                        clear hb0
                        generalize Pk (Eg es) k m j = b1 at *
                        generalize Pk (Eg es) k k j = b2 at *
                        go_wp2_with fail
                        refine wp_region_still_tail 22 (by kernel_rfl) (by kernel_rfl) ?_
                        simp only [List.take_succ_cons, List.take_zero, List.drop_succ_cons, List.drop_zero]
                        iterate 13 still_step
                        have hbd : Below wr.heap.size wr ({ heap := wr.heap, tape := wr.tape, drawn := wr.drawn + 1, os := wr.os, output := wr.output } : World) := ⟨rfl, rfl, rfl, Nat.le_refl _, fun _ _ => rfl⟩
                        have HMy := Lib.hid (HM.out.below hbd)
                        have Hby := Lib.hid (bl2 Hb.out hbd)
                        clear hbd
                        by_cases hg : b1 = true
                        · iterate 7 (refine wpStill_offb b1 hg (by kernel_rfl) ?_; simp only [Act.put, List.setIfInBounds_toArray, List.set_cons_succ, List.set_cons_zero])
                          refine wpStill_run' (.bool true) (by kernel_rfl) (by simp [execOp, go_sem, Act.eval, hg]) ?_
                          simp only [Act.put, List.setIfInBounds_toArray, List.set_cons_succ]
                          still_step
                          refine wpStill_nil ?_
                          rw [hg, Bool.true_or] at HX
                          clear co ck ca ck2 cb hx x0 hg
                          generalize ({ heap := wr.heap, tape := wr.tape, drawn := wr.drawn + 1, os := wr.os, output := wr.output } : World) = wy at HMy Hby ⊢
                          have ca := HMy.out.cellI hlm hlj
                          have cf := HMy.out.froz hlm j
                          have HM5 := Lib.hid (HX.out _ HMy.out)
                          go_wp2_with fail
                          go_roundw
                          case rel => exact ⟨j + 1, by omega, by go_num, HM5, Lib.hid (Hby.out.setCell (p := ⟨W.heap.size + 1 + m, j, none⟩) (by show W.heap.size ≤ W.heap.size + 1 + m; omega) _)⟩
                          case measure => simp [intOf]; omega
                        · obtain rfl : b1 = false := by simpa using hg
                          clear hg
                          rw [Bool.false_or] at HX
                          iterate 9 still_step
                          refine wpStill_nil ?_
                          clear co ck ca ck2 cb hx x0
                          generalize ({ heap := wr.heap, tape := wr.tape, drawn := wr.drawn + 1, os := wr.os, output := wr.output } : World) = wy at HMy Hby ⊢
                          have ca := HMy.out.cellI hlm hlj
                          have cf := HMy.out.froz hlm j
                          have HM5 := Lib.hid (HX.out _ HMy.out)
                          go_wp2_with fail
                          go_roundw
                          case rel => exact ⟨j + 1, by omega, by go_num, HM5, Lib.hid (Hby.out.setCell (p := ⟨W.heap.size + 1 + m, j, none⟩) (by show W.heap.size ≤ W.heap.size + 1 + m; omega) _)⟩
                          case measure => simp [intOf]; omega
                    · obtain rfl : j = n := by omega
                      have HM2 : Hid (Mx W.heap.size j (Lv (Eg es) k (m + 1) 0) wr) := Lib.hid (HM.out.congr fun x _ y hy => Lv_rowend x y hy)
                      go_wp2
                      go_roundw
                      case rel => exact ⟨m + 1, by omega, by go_num, HM2, Hb⟩
                      case measure => simp [intOf]; omega
                · obtain rfl : m = n := by omega
                  have HM2 : Hid (Mx W.heap.size m (Lv (Eg es) (k + 1) 0 0) wr) := Lib.hid (HM.out.congr fun x hx y _ => Lv_round x y hx)
                  go_wp2
                  go_roundw
                  case rel => exact ⟨k + 1, by omega, by go_num, HM2, Hb⟩
                  case measure => simp [intOf]; omega
            · obtain rfl : k = n := by omega
              have HM2 : Hid (Mx W.heap.size k (fun i j => Bf k es i j) wr) := Lib.hid (HM.out.congr fun x _ y _ => by rw [Lv_last]; unfold Bf; rw [Int.toNat_natCast])
              go_wp2
              go_ret
              exact ⟨_, rfl, KB.out _ Hb.out, HM2.out⟩
end Go.Proofs.Ytcekfgahhicdcaa
