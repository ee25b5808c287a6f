/- The reference's Linear. -/
import Derived.Test.YtcekfgahhicdcaaOrdFr
namespace Go.Proofs.Ytcekfgahhicdcaa
open Go.RowKit

theorem size_setCell (w : World) (a : Addr) (v : Value) : (w.setCell a v).heap.size = w.heap.size := by simp [World.setCell]
set_option maxRecDepth 20000 in
set_option maxHeartbeats 4000000 in
theorem rlinear_any (N : Int) (v : Value) (es : List (Int × Int)) (w : World) (h : Prs w v es) (hl : es.length ≤ 100000) : Calls Try.prog 20 #[.agg #[.int .i64 N, v]] w (MkP (linR N es) w) := by
  have H := Lib.hid h; clear h
  cases hv : valO N es with
  | false =>
    have Hr := Lib.hid (show linR N es = ([], 1) by unfold linR; rw [hv]; rfl)
    have Hv := Lib.hid hv; clear hv
    go_enter Try.func20, Try.ntmps20
    go_wp2_with fail
    refine (rvalid_any N v es _ (H.out.below (below_alloc _ _)) hl).mono ?_
    rintro e w1 ⟨rfl, hb⟩
    rw [Hv.out]
    have Hb := Lib.hid (box_low hb)
    clear hb
    go_wp2
    go_ret2
    exact MkP.nil Hr.out Hb.out
  | true =>
    have Hv := Lib.hid hv
    obtain ⟨⟨n0, n1, n2⟩, hed, hac⟩ := valO_parts hv
    obtain ⟨n, rfl⟩ : ∃ n : Nat, N = n := ⟨N.toNat, by omega⟩
    have hn : n ≤ 60 := by omega
    have Hr := Lib.hid (show linR n es = (Lk n es n, 0) by unfold linR Lk; rw [hv, if_pos rfl, Int.toNat_natCast])
    have Hac := Lib.hid hac
    have Hed := Lib.hid hed
    obtain ⟨j0, hj0, hy0, hy1, hy2⟩ := info_parts info_bool
    clear hv n0 n1 hac hed
    go_enter Try.func20, Try.ntmps20
    go_wp2_with fail
    refine (rvalid_any n v es _ (H.out.below (below_alloc _ _)) hl).mono ?_
    rintro e w1 ⟨rfl, hb⟩
    have hx := box_keep hb
    have x0 := cell_of_row _ _ 0 _ _ _ hx
    have x1 := cell_of_row _ _ 1 _ _ _ hx
    rw [Hv.out]
    have B1 := Lib.hid hb
    clear hb
    go_wp2_with fail
    refine (behind_any n v es _ (H.out.below (box_low B1.out)) hl hn Hed.out).mono ?_
    rintro e w2 ⟨g, rfl, hb2, hM⟩
    have HM := Lib.hid hM
    have B2 := Lib.hid (bl2 B1.out hb2)
    clear hb2 hM hx x0 x1
    have hx := box_keep B2.out
    have x0 := cell_of_row _ _ 0 _ _ _ hx
    have KX := Lib.hid (show ∀ w', Below w2.heap.size w2 w' → w'.cell? ⟨w.heap.size, 0, none⟩ = some (.int .i64 (n : Int)) from fun w' h => cell_of_row _ _ 0 _ _ _ (box_keep (bl2 B2.out h)))
    have Hrow := Lib.hid ((World.rowIs_made w2 (.bool false) n 4).congr (g := fun i => .bool ((sK n es 0).testBit i)) (fun i _ => by rw [sK_zero, Nat.zero_testBit]))
    have Hba := Lib.hid (below_alloc w2 (.cells (madeCells #[.bool false] n) 4))
    go_wp2_with (at_make; refine wpList_make_row _ rfl _ _ 59 rfl 4 j0 (.bool false) (by kernel_rfl) hj0 hy0 hy1 rfl .i64 .i64 n rfl rfl (by rw [hy2]; omega) (by omega) ?_)
    clear hx x0
    have x0 := KX.out _ Hba.out
    go_loopw [6, 7] (fun lv i wr => ∃ k : Nat, k ≤ n ∧ i = .int .i64 k ∧ Hid (wr.rowIs w2.heap.size 4 n (fun i => .bool ((sK n es k).testBit i))) ∧ Hid (wr.ownsRow (w2.heap.size + 1) 3 1 lv k ((Lk n es k).map iv)) ∧ Hid (Below w2.heap.size w2 wr)) (fun _ i _ => n - (intOf i).toNat)
    case atStart => exact ⟨0, Nat.zero_le _, rfl, Hrow, Lib.hid (World.ownsRow_nil _ _ _ _), Hba⟩
    case round =>
      clear x0 Hrow Hba
      obtain ⟨k, hk, rfl, Hrow, Ho, Hb⟩ := hrel
      have x0 := KX.out _ Hb.out
      by_cases hlt : k < n
      · have hf := li_facts (N := (n : Int)) Hac.out k (by omega)
        obtain ⟨t, ht⟩ := frL_first (n := n) Hac.out (s := sK n es k) (by have := hf.2.2.1; rw [Int.toNat_natCast] at this; unfold sK; omega)
        obtain ⟨e0, e1⟩ := eK_nx Hac.out hlt
        have Hsuc := Lib.hid (show (Lk n es (k + 1)).map iv = (Lk n es k).map iv ++ [.int .i64 ((eK n es k : Nat) : Int)] from Lk_succ n es k)
        have ht2 : frL n es (sK n es k) n = ((eK n es k : Nat) : Int) :: t := ht
        have Ht := Lib.hid ht2
        have Hsk := Lib.hid (sK_succ (n := n) (es := es) k)
        clear hf ht ht2 e1
        go_wp2_with fail
        refine (free_any n g w2.heap.size (sK n es k) es _ (HM.out.below Hb.out) Hrow.out hn).mono ?_
        rintro e w4 ⟨lv2, rfl, ho4, hb4⟩
        rw [Ht.out] at ho4
        obtain ⟨ad, cp, rfl, hcp, hce⟩ := sl_cell (Sl.of_own ho4) 0 (by simp)
        have hce2 : w4.cell? ad = some (.int .i64 ((eK n es k : Nat) : Int)) := by
          have h9 : w4.cell? (ad.add 0) = some (.int .i64 ((eK n es k : Nat) : Int)) := hce
          first | simpa using h9 | simpa [Addr.add] using h9
        have hlen : ((((eK n es k : Nat) : Int) :: t).length : Int) = (t.length : Int) + 1 := by simp
        have Hrow4 := Lib.hid (Hrow.out.of_block (hb4.block _ Hrow.out.lt))
        have Ho4 := Lib.hid (own_below Ho.out hb4)
        have Hb4 := Lib.hid (Hb.out.trans (hb4.mono Hb.out.size))
        have hsz4 := hb4.size
        have hsz := Hrow.out.lt
        generalize eK n es k = x at *
        have cd := Hrow4.out.cell e0
        have fd := Hrow4.out.frozen x
        have x4 := KX.out _ Hb4.out
        have y0 : (0 : Int) ≤ (x : Int) := by omega
        have y1 : (x : Int) < (n : Int) := by omega
        have Hnr := Lib.hid ((Hrow4.out.set x (.bool true)).congr (g := fun i => .bool ((sK n es (k + 1)).testBit i)) (fun i _ => by
          rw [Hsk.out, or_bit]
          by_cases e : i = x
          · subst e; rw [if_pos rfl]; simp
          · rw [if_neg e, decide_eq_false (fun h => e h.symm), Bool.or_false]))
        have Hno := Lib.hid (own_below_set Ho4.out (a := ⟨w2.heap.size, x, none⟩) (by show w2.heap.size < w2.heap.size + 1; omega) (.bool true))
        have Hnb := Lib.hid (Hb4.out.setCell (p := ⟨w2.heap.size, x, none⟩) (Nat.le_refl _) (.bool true))
        generalize (sK n es k).testBit x = bx at cd
        clear ho4 hb4 hce
        have hszn := Hnb.out.size
        have hsz9 : w2.heap.size + 1 ≤ (w4.setCell ⟨w2.heap.size, x, none⟩ (.bool true)).heap.size := by simp [World.setCell]; omega
        go_wp2_with (at_builtin; refine app1S rfl _ _ 31 rfl 3 (.int .i64 0) 8 info_int rfl (by kernel_rfl) (w2.heap.size + 1) _ _ _ rfl Hno.out (.int .i64 (x : Int)) (by rw [size_setCell]; rfl) rfl (by omega) (by omega) hsz9 ?_; intro v' w5 hown5 hfr5; have Hb5 := Lib.hid (hfr5.below hsz9); have Hown5 := Lib.hid hown5; clear hown5 hfr5)
        go_roundw
        case rel => exact ⟨k + 1, by omega, by go_num, Lib.hid (Hnr.out.of_block (Hb5.out.block _ (Nat.lt_succ_self _))), Lib.hid (by rw [Hsuc.out]; exact Hown5.out), Lib.hid (Hnb.out.trans (Hb5.out.mono (Nat.le_succ _)))⟩
        case measure => simp [intOf]; omega
      · obtain rfl : k = n := by omega
        go_wp2
        go_ret2
        exact MkP.ok Hr.out Ho.out (by have := (box_low B2.out).size; omega) (box_low (bl2 B2.out Hb.out))
end Go.Proofs.Ytcekfgahhicdcaa
