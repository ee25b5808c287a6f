/- value: Clamp of integers that are refused; any integers. -/
import Derived.Test.YtnainhpcmoekcaaGreatDoorVaA
namespace Go.Proofs.YtnainhpcmoekcaaGreatDoor
open Go.RowKit

set_option maxRecDepth 100000 in
set_option maxHeartbeats 1600000 in
theorem clamp_bad1 (lo hi n : Int) (w : World) (h : soB 1 lo hi = false) : Calls Tryz.prog 25 #[so 1 lo hi, vl 1 n []] w (Tells w (.tuple #[vl 0 0 [], .int .i64 1])) := by
 obtain ⟨V, hV⟩ : ∃ V, V = ((w.alloc (.cells #[.int .i64 1, .int .i64 lo, .int .i64 hi] 23)).alloc (.cells #[.int .i64 1, .int .i64 n, .string (ofL [])] 25)).alloc (.cells #[.int .i64 0, .int .i64 0, .string ⟨#[]⟩] 25) := ⟨_, rfl⟩
 have hb2 := al3 w (.cells #[.int .i64 1, .int .i64 lo, .int .i64 hi] 23) (.cells #[.int .i64 1, .int .i64 n, .string (ofL [])] 25) (.cells #[.int .i64 0, .int .i64 0, .string ⟨#[]⟩] 25)
 have hx := heap_3a w (.cells #[.int .i64 1, .int .i64 lo, .int .i64 hi] 23) (.cells #[.int .i64 1, .int .i64 n, .string (ofL [])] 25) (.cells #[.int .i64 0, .int .i64 0, .string ⟨#[]⟩] 25)
 have hv := heap_3b w (.cells #[.int .i64 1, .int .i64 lo, .int .i64 hi] 23) (.cells #[.int .i64 1, .int .i64 n, .string (ofL [])] 25) (.cells #[.int .i64 0, .int .i64 0, .string ⟨#[]⟩] 25)
 have hy := heap_3c w (.cells #[.int .i64 1, .int .i64 lo, .int .i64 hi] 23) (.cells #[.int .i64 1, .int .i64 n, .string (ofL [])] 25) (.cells #[.int .i64 0, .int .i64 0, .string ⟨#[]⟩] 25)
 rw [← hV] at hb2 hx hy hv
 have HC := Lib.hid (so_walk 1 lo hi V)
 rw [h] at HC
 have HX := Lib.hid (show Bx V w.heap.size 23 #[.int .i64 1, .int .i64 lo, .int .i64 hi] from hx)
 have HY := Lib.hid (show Bx V (w.heap.size + 1) 25 #[.int .i64 1, .int .i64 n, .string (ofL [])] from hv)
 have HZ := Lib.hid (show Bx V (w.heap.size + 2) 25 #[.int .i64 0, .int .i64 0, .string ⟨#[]⟩] from hy)
 have HB := Lib.hid hb2
 have HV := Lib.hid hV
 have x0 := HX.out.cell 0
 have x1 := HX.out.cell 1
 have x2 := HX.out.cell 2
 rw [hV] at x0 x1 x2
 clear h hb2 hx hy hV hv
 unfold so at HC ⊢
 unfold vl
 go_enter Tryz.func25, Tryz.ntmps25
 go_wp2_with fail
 rw [← HV.out]
 refine HC.out.mono ?_
 rintro e w2 ⟨rfl, hb⟩
 have hz2 := HZ.out.below hb
 have k0 := hz2.cell 0
 have k1 := hz2.cell 1
 have k2 := hz2.cell 2
 have z0 := hz2.free 0
 have z1 := hz2.free 1
 have z2 := hz2.free 2
 have HZE := Lib.hid (z3 (v0 := .int .i64 0) (v1 := .int .i64 0) (v2 := .string ⟨#[]⟩) hz2)
 have HBE := Lib.hid ((((below_ext2 HB.out hb).setCell (p := ⟨w.heap.size + 2, 0, none⟩) (by show w.heap.size ≤ w.heap.size + 2; omega) (.int .i64 0)).setCell (p := ⟨w.heap.size + 2, 1, none⟩) (by show w.heap.size ≤ w.heap.size + 2; omega) (.int .i64 0)).setCell (p := ⟨w.heap.size + 2, 2, none⟩) (by show w.heap.size ≤ w.heap.size + 2; omega) (.string ⟨#[]⟩))
 clear x0 x1 x2 hb hz2
 go_wp2_with fail
 refine bodyPost_ret (bx_ret2 HZE.out rfl _ rfl Tryz.underlying25 rfl info_val) rfl ?_
 exact ⟨rfl, HBE.out⟩
set_option maxRecDepth 100000 in
set_option maxHeartbeats 1600000 in
theorem clamp_bad2 (lo hi n : Int) (w : World) (h : soB 1 lo hi = true) (hn : inB n = false) : Calls Tryz.prog 25 #[so 1 lo hi, vl 1 n []] w (Tells w (.tuple #[vl 0 0 [], .int .i64 1])) := by
 obtain ⟨V, hV⟩ : ∃ V, V = ((w.alloc (.cells #[.int .i64 1, .int .i64 lo, .int .i64 hi] 23)).alloc (.cells #[.int .i64 1, .int .i64 n, .string (ofL [])] 25)).alloc (.cells #[.int .i64 0, .int .i64 0, .string ⟨#[]⟩] 25) := ⟨_, rfl⟩
 have hb2 := al3 w (.cells #[.int .i64 1, .int .i64 lo, .int .i64 hi] 23) (.cells #[.int .i64 1, .int .i64 n, .string (ofL [])] 25) (.cells #[.int .i64 0, .int .i64 0, .string ⟨#[]⟩] 25)
 have hx := heap_3a w (.cells #[.int .i64 1, .int .i64 lo, .int .i64 hi] 23) (.cells #[.int .i64 1, .int .i64 n, .string (ofL [])] 25) (.cells #[.int .i64 0, .int .i64 0, .string ⟨#[]⟩] 25)
 have hv := heap_3b w (.cells #[.int .i64 1, .int .i64 lo, .int .i64 hi] 23) (.cells #[.int .i64 1, .int .i64 n, .string (ofL [])] 25) (.cells #[.int .i64 0, .int .i64 0, .string ⟨#[]⟩] 25)
 have hy := heap_3c w (.cells #[.int .i64 1, .int .i64 lo, .int .i64 hi] 23) (.cells #[.int .i64 1, .int .i64 n, .string (ofL [])] 25) (.cells #[.int .i64 0, .int .i64 0, .string ⟨#[]⟩] 25)
 rw [← hV] at hb2 hx hy hv
 have HC := Lib.hid (so_walk 1 lo hi V)
 rw [h] at HC
 have HVA := Lib.hid (fun W => valid_any 1 n [] W)
 rw [show vlB 1 n [] = false by simp [vlB, hn]] at HVA
 have HX := Lib.hid (show Bx V w.heap.size 23 #[.int .i64 1, .int .i64 lo, .int .i64 hi] from hx)
 have HY := Lib.hid (show Bx V (w.heap.size + 1) 25 #[.int .i64 1, .int .i64 n, .string (ofL [])] from hv)
 have HZ := Lib.hid (show Bx V (w.heap.size + 2) 25 #[.int .i64 0, .int .i64 0, .string ⟨#[]⟩] from hy)
 have HB := Lib.hid hb2
 have HV := Lib.hid hV
 have x0 := HX.out.cell 0
 have x1 := HX.out.cell 1
 have x2 := HX.out.cell 2
 rw [hV] at x0 x1 x2
 clear h hb2 hx hy hV hv hn
 unfold so at HC ⊢
 unfold vl at HVA ⊢
 go_enter Tryz.func25, Tryz.ntmps25
 go_wp2_with fail
 rw [← HV.out]
 refine HC.out.mono ?_
 rintro e w2 ⟨rfl, hb⟩
 have v0 := (HY.out.below hb).cell 0
 have v1 := (HY.out.below hb).cell 1
 have v2 := (HY.out.below hb).cell 2
 have HX2 := Lib.hid (HX.out.below hb)
 have HY2 := Lib.hid (HY.out.below hb)
 have HZ2 := Lib.hid (HZ.out.below hb)
 have HB2 := Lib.hid (below_ext2 HB.out hb)
 clear x0 x1 x2 hb HC HX HY HZ HB
 go_wp2_with fail
 refine (HVA.out _).mono ?_
 rintro e w3 ⟨rfl, hb⟩
 have hz2 := HZ2.out.below hb
 have k0 := hz2.cell 0
 have k1 := hz2.cell 1
 have k2 := hz2.cell 2
 have z0 := hz2.free 0
 have z1 := hz2.free 1
 have z2 := hz2.free 2
 have HZE := Lib.hid (z3 (v0 := .int .i64 0) (v1 := .int .i64 0) (v2 := .string ⟨#[]⟩) hz2)
 have HBE := Lib.hid ((((below_ext2 HB2.out hb).setCell (p := ⟨w.heap.size + 2, 0, none⟩) (by show w.heap.size ≤ w.heap.size + 2; omega) (.int .i64 0)).setCell (p := ⟨w.heap.size + 2, 1, none⟩) (by show w.heap.size ≤ w.heap.size + 2; omega) (.int .i64 0)).setCell (p := ⟨w.heap.size + 2, 2, none⟩) (by show w.heap.size ≤ w.heap.size + 2; omega) (.string ⟨#[]⟩))
 clear v0 v1 v2 hb hz2
 go_wp2_with fail
 refine bodyPost_ret (bx_ret2 HZE.out rfl _ rfl Tryz.underlying25 rfl info_val) rfl ?_
 exact ⟨rfl, HBE.out⟩
/-- What Clamp says of integers. -/
def clI (lo hi n : Int) : (Int × Int) × Int := if soB 1 lo hi && inB n then ((1, min (max n lo) hi), 0) else ((0, 0), 1)
theorem clampi_any (lo hi n : Int) (w : World) : Calls Tryz.prog 25 #[so 1 lo hi, vl 1 n []] w (Tells w (.tuple #[vl (clI lo hi n).1.1 (clI lo hi n).1.2 [], .int .i64 (clI lo hi n).2])) := by
 unfold clI
 cases h : soB 1 lo hi with
 | false => exact clamp_bad1 lo hi n w h
 | true =>
  cases hn : inB n with
  | false => exact clamp_bad2 lo hi n w h hn
  | true => exact clamp_int lo hi n w h hn
end Go.Proofs.YtnainhpcmoekcaaGreatDoor
