/- Valid, Before and Concurrent of order. -/
import Derived.Test.YtcekfgahhicdcaaOrdPo
namespace Go.Proofs.Ytcekfgahhicdcaa
open Go.RowKit

theorem box_keep {w w' : World} {cs : Array Value} {t : TypeId} (h : Below (w.alloc (.cells cs t)).heap.size (w.alloc (.cells cs t)) w') : w'.heap[w.heap.size]? = some (.cells cs t (0, 0)) := (h.block _ (by simp)).trans (heap_alloc_new w _)
theorem box_low {w w' : World} {o : Obj} (h : Below (w.alloc o).heap.size (w.alloc o) w') : Below w.heap.size w w' := bl2 (below_alloc w o) h
set_option maxHeartbeats 1000000 in
theorem valid_any (N : Int) (v : Value) (es : List (Int × Int)) (w : World) (h : Prs w v es) (hl : es.length ≤ 100000) : Calls Try.prog 13 #[.agg #[.int .i64 N, v]] w fun e w' => e = .returned (.bool (valO N es)) ∧ Below w.heap.size w w' := by
  have H := Lib.hid h; clear h
  obtain ⟨R, hR⟩ : ∃ R, R = valO N es := ⟨_, rfl⟩
  rw [← hR]
  have HR := Lib.hid hR; clear hR
  go_enter Try.func13, Try.ntmps13
  go_wp2_with fail
  refine (pastsof_any N v es _ (H.out.below (below_alloc _ _)) hl).mono ?_
  rintro e w1 ⟨v1, rfl, hb, _⟩
  rw [← HR.out]
  have Hb := Lib.hid (box_low hb)
  clear hb
  go_wp2
  go_ret
  exact ⟨rfl, Hb.out⟩
set_option maxHeartbeats 2000000 in
theorem before_any (N a b : Int) (v : Value) (es : List (Int × Int)) (w : World) (h : Prs w v es) (hl : es.length ≤ 100000) : Calls Try.prog 15 #[.agg #[.int .i64 N, v], .int .i64 a, .int .i64 b] w fun e w' => e = .returned (.bool (befO N es a b)) ∧ Below w.heap.size w w' := by
  have H := Lib.hid h; clear h
  obtain ⟨R, hR⟩ : ∃ R, R = befO N es a b := ⟨_, rfl⟩
  rw [← hR]
  unfold befO at hR
  have HR := Lib.hid hR; clear hR
  cases hv : valO N es with
  | false =>
    have hr : R = false := by rw [HR.out, hv]; rfl
    subst hr
    have Hv := Lib.hid hv; clear hv
    go_enter Try.func15, Try.ntmps15
    go_wp2_with fail
    refine (pastsof_any N v es _ (H.out.below (below_alloc _ _)) hl).mono ?_
    rintro e w1 ⟨v1, rfl, hb, _⟩
    rw [Hv.out]
    have Hb := Lib.hid (box_low hb)
    clear hb
    go_wp2
    go_ret
    exact ⟨rfl, Hb.out⟩
  | true =>
    rw [hv, Bool.true_and] at HR
    have Hv := Lib.hid hv
    obtain ⟨⟨n0, n1, n2⟩, _, _⟩ := valO_parts hv
    obtain ⟨n, rfl⟩ : ∃ n : Nat, N = n := ⟨N.toNat, by omega⟩
    clear hv
    cases ha : inB n a with
    | false =>
      have hr : R = false := by rw [HR.out, ha]; rfl
      subst hr
      have Ha := Lib.hid ha; clear ha
      go_enter Try.func15, Try.ntmps15
      go_wp2_with fail
      refine (pastsof_any n v es _ (H.out.below (below_alloc _ _)) hl).mono ?_
      rintro e w1 ⟨v1, rfl, hb, hs⟩
      have hx := box_keep hb
      have x0 := cell_of_row _ _ 0 _ _ _ hx
      have x1 := cell_of_row _ _ 1 _ _ _ hx
      rw [Hv.out]
      have Hb := Lib.hid (box_low hb)
      clear hb hs
      go_wp2_with fail
      refine (exists_any _ _ _ _).mono ?_
      rintro e w2 ⟨rfl, hb2⟩
      rw [Ha.out]
      have Hb2 := Lib.hid (bl2 Hb.out hb2)
      clear hb2 hx x0 x1
      go_wp2
      go_ret
      exact ⟨rfl, Hb2.out⟩
    | true =>
      rw [ha, Bool.true_and] at HR
      have Ha := Lib.hid ha
      obtain ⟨a0, a1⟩ := inB_iff.1 ha
      obtain ⟨a, rfl⟩ : ∃ m : Nat, a = m := ⟨a.toNat, by omega⟩
      clear ha
      cases hbb : inB n b with
      | false =>
        have hr : R = false := by rw [HR.out, hbb]; rfl
        subst hr
        have Hbb := Lib.hid hbb; clear hbb
        go_enter Try.func15, Try.ntmps15
        go_wp2_with fail
        refine (pastsof_any n v es _ (H.out.below (below_alloc _ _)) hl).mono ?_
        rintro e w1 ⟨v1, rfl, hb, hs⟩
        have hx := box_keep hb
        have x0 := cell_of_row _ _ 0 _ _ _ hx
        have x1 := cell_of_row _ _ 1 _ _ _ hx
        rw [Hv.out]
        have Hbox := Lib.hid hb
        clear hb hs
        go_wp2_with fail
        refine (exists_any _ _ _ _).mono ?_
        rintro e w2 ⟨rfl, hb2⟩
        rw [Ha.out]
        have Hbx2 := Lib.hid (bl2 Hbox.out hb2)
        clear hb2 hx x0 x1
        have hx := box_keep Hbx2.out
        have x0 := cell_of_row _ _ 0 _ _ _ hx
        have x1 := cell_of_row _ _ 1 _ _ _ hx
        go_wp2_with fail
        refine (exists_any _ _ _ _).mono ?_
        rintro e w3 ⟨rfl, hb3⟩
        rw [Hbb.out]
        have Hb3 := Lib.hid (box_low (bl2 Hbx2.out hb3))
        clear hb3 hx x0 x1
        go_wp2
        go_ret
        exact ⟨rfl, Hb3.out⟩
      | true =>
        rw [hbb, Bool.true_and] at HR
        have Hbb := Lib.hid hbb
        obtain ⟨b0, b1⟩ := inB_iff.1 hbb
        obtain ⟨b, rfl⟩ : ∃ m : Nat, b = m := ⟨b.toNat, by omega⟩
        clear hbb
        go_enter Try.func15, Try.ntmps15
        go_wp2_with fail
        refine (pastsof_any n v es _ (H.out.below (below_alloc _ _)) hl).mono ?_
        rintro e w1 ⟨v1, rfl, hb, hs⟩
        have Hs := Lib.hid (hs Hv.out)
        have hx := box_keep hb
        have x0 := cell_of_row _ _ 0 _ _ _ hx
        have x1 := cell_of_row _ _ 1 _ _ _ hx
        rw [Hv.out]
        have Hbox := Lib.hid hb
        clear hb hs
        go_wp2_with fail
        refine (exists_any _ _ _ _).mono ?_
        rintro e w2 ⟨rfl, hb2⟩
        rw [Ha.out]
        have Hs2 := Lib.hid (Hs.out.below hb2)
        have Hbx2 := Lib.hid (bl2 Hbox.out hb2)
        clear hb2 hx x0 x1
        have hx := box_keep Hbx2.out
        have x0 := cell_of_row _ _ 0 _ _ _ hx
        have x1 := cell_of_row _ _ 1 _ _ _ hx
        go_wp2_with fail
        refine (exists_any _ _ _ _).mono ?_
        rintro e w3 ⟨rfl, hb3⟩
        rw [Hbb.out]
        have Hs3 := Lib.hid (Hs2.out.below hb3)
        have Hb3 := Lib.hid (box_low (bl2 Hbx2.out hb3))
        have hbl : b < (psts n es).length := by rw [psts_len]; omega
        obtain ⟨ad, c', rfl, hcap, hcell⟩ := sl_cell Hs3.out b hbl
        have Hxl := Lib.hid (psts_mem (N := (n : Int)) (es := es) (by omega) (List.getElem_mem hbl))
        have Hbt := Lib.hid (show ((psts n es)[b]).testBit a = Bf n es a b by
          have e1 : (psts n es)[b] = (psts n es).getD b 0 := by rw [List.getD_eq_getElem?_getD, List.getElem?_eq_getElem hbl]; rfl
          rw [e1, psts_at (by omega), pst_bit (by omega)])
        unfold uv at hcell
        rw [psts_len, Int.toNat_natCast] at *
        generalize (psts n es)[b] = x at *
        clear hb3 hx x0 x1
        go_wp2_with fail
        refine (has_any x a _ Hxl.out (by omega)).mono ?_
        rintro r w4 ⟨rfl, rfl⟩
        rw [Hbt.out]
        go_wp2
        go_ret
        refine ⟨ret_b ?_, Hb3.out⟩
        rw [HR.out]
        simp
end Go.Proofs.Ytcekfgahhicdcaa
