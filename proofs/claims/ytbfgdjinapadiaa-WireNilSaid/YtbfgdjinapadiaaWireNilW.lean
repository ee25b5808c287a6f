/- WireNil: for every input the law returns true. -/
import Derived.Test.YtbfgdjinapadiaaWireNil
import Derived.ProofKit
namespace Go.Proofs.Ytbfgdjinapadiaa
open Go.RowKit

set_option maxHeartbeats 400000 in
theorem wirenil_walk (k lo hi : Int) (w : World) : Calls Try.prog 7 #[.agg #[.int .i64 k, .int .i64 lo, .int .i64 hi]] w (Ok w) := by
  go_enter Try.func7, Try.ntmps7
  go_wp2_with fail
  refine (awake_any _).mono ?_
  rintro e w1 ⟨rfl, hb1⟩
  have hbx := (hb1.block w.heap.size (by simp)).trans (heap_alloc_new w _)
  have c1 := cell_of_row w1 w.heap.size 1 _ _ _ hbx
  have c2 := cell_of_row w1 w.heap.size 2 _ _ _ hbx
  have hlt := lt_of_some hbx
  have hb1' : Below w.heap.size w w1 := ((Below.refl _ w).alloc (Nat.le_refl _) _).trans (hb1.mono (by simp))
  clear hbx hb1
  go_wp2_with fail
  refine (int_nil _).mono ?_
  rintro e w2 ⟨rfl, rfl⟩
  go_wp2_with fail
  refine (bnd_nil _ _ _).mono ?_
  rintro e w2 ⟨rfl, rfl⟩
  go_wp2_with fail
  refine (rbool_nil _).mono ?_
  rintro e w2 ⟨rfl, rfl⟩
  go_wp2_with fail
  refine (text_nil _ _).mono ?_
  rintro e w2 ⟨rfl, hb⟩
  have c1_2 := (hb.cell (p := ⟨w.heap.size, 1, none⟩) hlt).trans c1
  have c2_2 := (hb.cell (p := ⟨w.heap.size, 2, none⟩) hlt).trans c2
  have hb_2 := hb1'.trans (hb.mono hb1'.size)
  have hl_2 := Nat.lt_of_lt_of_le hlt hb.size
  clear c1 c2 hb1' hb hlt
  go_wp2_with fail
  refine (rbytes_nil _ _).mono ?_
  rintro e w3 ⟨rfl, hb⟩
  have c1_3 := (hb.cell (p := ⟨w.heap.size, 1, none⟩) hl_2).trans c1_2
  have c2_3 := (hb.cell (p := ⟨w.heap.size, 2, none⟩) hl_2).trans c2_2
  have hb_3 := hb_2.trans (hb.mono hb_2.size)
  have hl_3 := Nat.lt_of_lt_of_le hl_2 hb.size
  clear c1_2 c2_2 hb_2 hb hl_2
  go_wp2_with fail
  refine (rints_nil _ _).mono ?_
  rintro e w4 ⟨rfl, hb⟩
  have c1_4 := (hb.cell (p := ⟨w.heap.size, 1, none⟩) hl_3).trans c1_3
  have c2_4 := (hb.cell (p := ⟨w.heap.size, 2, none⟩) hl_3).trans c2_3
  have hb_4 := hb_3.trans (hb.mono hb_3.size)
  have hl_4 := Nat.lt_of_lt_of_le hl_3 hb.size
  clear c1_3 c2_3 hb_3 hb hl_3
  go_wp2_with fail
  refine (rvalue_nil _).mono ?_
  rintro e w5 ⟨rfl, hb⟩
  have c1_5 := (hb.cell (p := ⟨w.heap.size, 1, none⟩) hl_4).trans c1_4
  have c2_5 := (hb.cell (p := ⟨w.heap.size, 2, none⟩) hl_4).trans c2_4
  have hb_5 := hb_4.trans (hb.mono hb_4.size)
  have hl_5 := Nat.lt_of_lt_of_le hl_4 hb.size
  clear c1_4 c2_4 hb_4 hb hl_4
  go_wp2_with fail
  refine (rvalues_nil _ _).mono ?_
  rintro e w6 ⟨rfl, hb⟩
  have c1_6 := (hb.cell (p := ⟨w.heap.size, 1, none⟩) hl_5).trans c1_5
  have c2_6 := (hb.cell (p := ⟨w.heap.size, 2, none⟩) hl_5).trans c2_5
  have hb_6 := hb_5.trans (hb.mono hb_5.size)
  have hl_6 := Nat.lt_of_lt_of_le hl_5 hb.size
  clear c1_5 c2_5 hb_5 hb hl_5
  go_wp2_with fail
  refine (revent_nil _).mono ?_
  rintro e w7 ⟨rfl, hb⟩
  have c1_7 := (hb.cell (p := ⟨w.heap.size, 1, none⟩) hl_6).trans c1_6
  have c2_7 := (hb.cell (p := ⟨w.heap.size, 2, none⟩) hl_6).trans c2_6
  have hb_7 := hb_6.trans (hb.mono hb_6.size)
  have hl_7 := Nat.lt_of_lt_of_le hl_6 hb.size
  clear c1_6 c2_6 hb_6 hb hl_6
  go_wp2_with fail
  refine (samevent_nil _).mono ?_
  rintro e w8 ⟨rfl, hb⟩
  have c1_8 := (hb.cell (p := ⟨w.heap.size, 1, none⟩) hl_7).trans c1_7
  have c2_8 := (hb.cell (p := ⟨w.heap.size, 2, none⟩) hl_7).trans c2_7
  have hb_8 := hb_7.trans (hb.mono hb_7.size)
  have hl_8 := Nat.lt_of_lt_of_le hl_7 hb.size
  clear c1_7 c2_7 hb_7 hb hl_7
  go_wp2_with fail
  refine (left_nil _).mono ?_
  rintro e w9 ⟨rfl, rfl⟩
  go_wp2_with fail
  refine (end_nil _).mono ?_
  rintro e w9 ⟨rfl, rfl⟩
  go_wp2_with fail
  go_ret
  exact ⟨rfl, hb_8⟩
end Go.Proofs.Ytbfgdjinapadiaa
