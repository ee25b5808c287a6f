/- value: Clamp of both sides where it tells an error (tools/gen_vcl.py). -/
import Derived.Test.YtnainhpcmoekcaaGreatDoorVaLs
namespace Go.Proofs.YtnainhpcmoekcaaGreatDoor
open Go.RowKit

theorem clone_any (s : Bs) (w : World) (hl : s.length ≤ 1000000) : Calls Tryz.prog 53 #[.string (ofL s)] w (Tells w (.string (ofL s))) := by
  have HC := Lib.hid (Tryz.stringslite_Clone (ofL s) w (by rw [ofL_size]; omega))
  go_enter Tryz.func53, Tryz.ntmps53
  go_wp2_with fail
  refine HC.out.mono ?_
  rintro e w1 ⟨rfl, hb⟩
  have HB := Lib.hid hb
  clear hb HC
  go_wp2_with fail
  go_ret
  exact ⟨rfl, HB.out⟩
set_option maxHeartbeats 1600000 in
theorem clamp_no1 (k lo hi kv n : Int) (s : Bs) (w : World) (h : soB k lo hi = false) : Calls Tryz.prog 25 #[so k lo hi, vl kv n s] w (Tells w (.tuple #[vl 0 0 [], .int .i64 1])) := by
  obtain ⟨V, hV⟩ : ∃ V, V = ((w.alloc (.cells #[.int .i64 k, .int .i64 lo, .int .i64 hi] 23)).alloc (.cells #[.int .i64 kv, .int .i64 n, .string (ofL s)] 25)).alloc (.cells #[.int .i64 0, .int .i64 0, .string ⟨#[]⟩] 25) := ⟨_, rfl⟩
  have hb2 := al3 w (.cells #[.int .i64 k, .int .i64 lo, .int .i64 hi] 23) (.cells #[.int .i64 kv, .int .i64 n, .string (ofL s)] 25) (.cells #[.int .i64 0, .int .i64 0, .string ⟨#[]⟩] 25)
  have hx := heap_3a w (.cells #[.int .i64 k, .int .i64 lo, .int .i64 hi] 23) (.cells #[.int .i64 kv, .int .i64 n, .string (ofL s)] 25) (.cells #[.int .i64 0, .int .i64 0, .string ⟨#[]⟩] 25)
  have hv := heap_3b w (.cells #[.int .i64 k, .int .i64 lo, .int .i64 hi] 23) (.cells #[.int .i64 kv, .int .i64 n, .string (ofL s)] 25) (.cells #[.int .i64 0, .int .i64 0, .string ⟨#[]⟩] 25)
  have hy := heap_3c w (.cells #[.int .i64 k, .int .i64 lo, .int .i64 hi] 23) (.cells #[.int .i64 kv, .int .i64 n, .string (ofL s)] 25) (.cells #[.int .i64 0, .int .i64 0, .string ⟨#[]⟩] 25)
  rw [← hV] at hb2 hx hy hv
  have HC := Lib.hid (so_walk k lo hi V)
  rw [h] at HC
  have HX := Lib.hid (show Bx V w.heap.size 23 #[.int .i64 k, .int .i64 lo, .int .i64 hi] from hx)
  have HY := Lib.hid (show Bx V (w.heap.size + 1) 25 #[.int .i64 kv, .int .i64 n, .string (ofL s)] from hv)
  have HZ := Lib.hid (show Bx V (w.heap.size + 2) 25 #[.int .i64 0, .int .i64 0, .string ⟨#[]⟩] from hy)
  have HB := Lib.hid hb2
  have HV := Lib.hid hV
  have x0 := HX.out.cell 0
  have x1 := HX.out.cell 1
  have x2 := HX.out.cell 2
  rw [hV] at x0 x1 x2
  clear h hb2 hx hy hV hv
  unfold so at HC ⊢
  unfold vl
  go_enter Tryz.func25, Tryz.ntmps25
  go_wp2_with fail
  rw [← HV.out]
  refine HC.out.mono ?_
  rintro e w1 ⟨rfl, hb⟩
  have HX1 := Lib.hid (HX.out.below hb)
  have HY1 := Lib.hid (HY.out.below hb)
  have HZ1 := Lib.hid (HZ.out.below hb)
  have HB1 := Lib.hid (below_ext2 HB.out hb)
  clear x0 x1 x2 hb HC HV HX HY HZ HB
  have hz2 := HZ1.out
  have k0 := hz2.cell 0
  have k1 := hz2.cell 1
  have k2 := hz2.cell 2
  have z0 := hz2.free 0
  have z1 := hz2.free 1
  have z2 := hz2.free 2
  have HZE := Lib.hid (z3 (v0 := .int .i64 0) (v1 := .int .i64 0) (v2 := .string ⟨#[]⟩) hz2)
  have HBE := Lib.hid (((HB1.out.setCell (p := ⟨w.heap.size + 2, 0, none⟩) (by show w.heap.size ≤ w.heap.size + 2; omega) (.int .i64 0)).setCell (p := ⟨w.heap.size + 2, 1, none⟩) (by show w.heap.size ≤ w.heap.size + 2; omega) (.int .i64 0)).setCell (p := ⟨w.heap.size + 2, 2, none⟩) (by show w.heap.size ≤ w.heap.size + 2; omega) (.string ⟨#[]⟩))
  clear hz2
  go_wp2_with fail
  refine bodyPost_ret (bx_ret2 HZE.out rfl _ rfl Tryz.underlying25 rfl info_val) rfl ?_
  exact ⟨rfl, HBE.out⟩
set_option maxHeartbeats 1600000 in
theorem clamp_no2 (k lo hi kv n : Int) (s : Bs) (w : World) (h : soB k lo hi = true) (hv : vlB kv n s = false) : Calls Tryz.prog 25 #[so k lo hi, vl kv n s] w (Tells w (.tuple #[vl 0 0 [], .int .i64 1])) := by
  have HVA := Lib.hid (fun W => valid_any kv n s W)
  rw [hv] at HVA
  clear hv
  unfold vl at HVA
  obtain ⟨V, hV⟩ : ∃ V, V = ((w.alloc (.cells #[.int .i64 k, .int .i64 lo, .int .i64 hi] 23)).alloc (.cells #[.int .i64 kv, .int .i64 n, .string (ofL s)] 25)).alloc (.cells #[.int .i64 0, .int .i64 0, .string ⟨#[]⟩] 25) := ⟨_, rfl⟩
  have hb2 := al3 w (.cells #[.int .i64 k, .int .i64 lo, .int .i64 hi] 23) (.cells #[.int .i64 kv, .int .i64 n, .string (ofL s)] 25) (.cells #[.int .i64 0, .int .i64 0, .string ⟨#[]⟩] 25)
  have hx := heap_3a w (.cells #[.int .i64 k, .int .i64 lo, .int .i64 hi] 23) (.cells #[.int .i64 kv, .int .i64 n, .string (ofL s)] 25) (.cells #[.int .i64 0, .int .i64 0, .string ⟨#[]⟩] 25)
  have hv := heap_3b w (.cells #[.int .i64 k, .int .i64 lo, .int .i64 hi] 23) (.cells #[.int .i64 kv, .int .i64 n, .string (ofL s)] 25) (.cells #[.int .i64 0, .int .i64 0, .string ⟨#[]⟩] 25)
  have hy := heap_3c w (.cells #[.int .i64 k, .int .i64 lo, .int .i64 hi] 23) (.cells #[.int .i64 kv, .int .i64 n, .string (ofL s)] 25) (.cells #[.int .i64 0, .int .i64 0, .string ⟨#[]⟩] 25)
  rw [← hV] at hb2 hx hy hv
  have HC := Lib.hid (so_walk k lo hi V)
  rw [h] at HC
  have HX := Lib.hid (show Bx V w.heap.size 23 #[.int .i64 k, .int .i64 lo, .int .i64 hi] from hx)
  have HY := Lib.hid (show Bx V (w.heap.size + 1) 25 #[.int .i64 kv, .int .i64 n, .string (ofL s)] from hv)
  have HZ := Lib.hid (show Bx V (w.heap.size + 2) 25 #[.int .i64 0, .int .i64 0, .string ⟨#[]⟩] from hy)
  have HB := Lib.hid hb2
  have HV := Lib.hid hV
  have x0 := HX.out.cell 0
  have x1 := HX.out.cell 1
  have x2 := HX.out.cell 2
  rw [hV] at x0 x1 x2
  clear h hb2 hx hy hV hv
  unfold so at HC ⊢
  unfold vl
  go_enter Tryz.func25, Tryz.ntmps25
  go_wp2_with fail
  rw [← HV.out]
  refine HC.out.mono ?_
  rintro e w1 ⟨rfl, hb⟩
  have HX1 := Lib.hid (HX.out.below hb)
  have HY1 := Lib.hid (HY.out.below hb)
  have HZ1 := Lib.hid (HZ.out.below hb)
  have HB1 := Lib.hid (below_ext2 HB.out hb)
  clear x0 x1 x2 hb HC HV HX HY HZ HB
  obtain ⟨x0, x1, x2⟩ := HY1.out.k3
  go_wp2_with fail
  refine (HVA.out _).mono ?_
  rintro e w2 ⟨rfl, hb⟩
  have HX2 := Lib.hid (HX1.out.below hb)
  have HY2 := Lib.hid (HY1.out.below hb)
  have HZ2 := Lib.hid (HZ1.out.below hb)
  have HB2 := Lib.hid (below_ext2 HB1.out hb)
  clear x0 x1 x2 hb HX1 HY1 HZ1 HB1 HVA
  have hz2 := HZ2.out
  have k0 := hz2.cell 0
  have k1 := hz2.cell 1
  have k2 := hz2.cell 2
  have z0 := hz2.free 0
  have z1 := hz2.free 1
  have z2 := hz2.free 2
  have HZE := Lib.hid (z3 (v0 := .int .i64 0) (v1 := .int .i64 0) (v2 := .string ⟨#[]⟩) hz2)
  have HBE := Lib.hid (((HB2.out.setCell (p := ⟨w.heap.size + 2, 0, none⟩) (by show w.heap.size ≤ w.heap.size + 2; omega) (.int .i64 0)).setCell (p := ⟨w.heap.size + 2, 1, none⟩) (by show w.heap.size ≤ w.heap.size + 2; omega) (.int .i64 0)).setCell (p := ⟨w.heap.size + 2, 2, none⟩) (by show w.heap.size ≤ w.heap.size + 2; omega) (.string ⟨#[]⟩))
  clear hz2
  go_wp2_with fail
  refine bodyPost_ret (bx_ret2 HZE.out rfl _ rfl Tryz.underlying25 rfl info_val) rfl ?_
  exact ⟨rfl, HBE.out⟩
set_option maxHeartbeats 1600000 in
theorem clamp_no3 (k lo hi kv n : Int) (s : Bs) (w : World) (h : soB k lo hi = true) (hv : vlB kv n s = true) (hk : k ≠ kv) : Calls Tryz.prog 25 #[so k lo hi, vl kv n s] w (Tells w (.tuple #[vl 0 0 [], .int .i64 11])) := by
  obtain ⟨g1, g2⟩ := eqb k kv hk
  have g3 : (k != kv) = true := by rw [bne, g1]; rfl
  have HVA := Lib.hid (fun W => valid_any kv n s W)
  rw [hv] at HVA
  clear hv
  unfold vl at HVA
  obtain ⟨V, hV⟩ : ∃ V, V = ((w.alloc (.cells #[.int .i64 k, .int .i64 lo, .int .i64 hi] 23)).alloc (.cells #[.int .i64 kv, .int .i64 n, .string (ofL s)] 25)).alloc (.cells #[.int .i64 0, .int .i64 0, .string ⟨#[]⟩] 25) := ⟨_, rfl⟩
  have hb2 := al3 w (.cells #[.int .i64 k, .int .i64 lo, .int .i64 hi] 23) (.cells #[.int .i64 kv, .int .i64 n, .string (ofL s)] 25) (.cells #[.int .i64 0, .int .i64 0, .string ⟨#[]⟩] 25)
  have hx := heap_3a w (.cells #[.int .i64 k, .int .i64 lo, .int .i64 hi] 23) (.cells #[.int .i64 kv, .int .i64 n, .string (ofL s)] 25) (.cells #[.int .i64 0, .int .i64 0, .string ⟨#[]⟩] 25)
  have hv := heap_3b w (.cells #[.int .i64 k, .int .i64 lo, .int .i64 hi] 23) (.cells #[.int .i64 kv, .int .i64 n, .string (ofL s)] 25) (.cells #[.int .i64 0, .int .i64 0, .string ⟨#[]⟩] 25)
  have hy := heap_3c w (.cells #[.int .i64 k, .int .i64 lo, .int .i64 hi] 23) (.cells #[.int .i64 kv, .int .i64 n, .string (ofL s)] 25) (.cells #[.int .i64 0, .int .i64 0, .string ⟨#[]⟩] 25)
  rw [← hV] at hb2 hx hy hv
  have HC := Lib.hid (so_walk k lo hi V)
  rw [h] at HC
  have HX := Lib.hid (show Bx V w.heap.size 23 #[.int .i64 k, .int .i64 lo, .int .i64 hi] from hx)
  have HY := Lib.hid (show Bx V (w.heap.size + 1) 25 #[.int .i64 kv, .int .i64 n, .string (ofL s)] from hv)
  have HZ := Lib.hid (show Bx V (w.heap.size + 2) 25 #[.int .i64 0, .int .i64 0, .string ⟨#[]⟩] from hy)
  have HB := Lib.hid hb2
  have HV := Lib.hid hV
  have x0 := HX.out.cell 0
  have x1 := HX.out.cell 1
  have x2 := HX.out.cell 2
  rw [hV] at x0 x1 x2
  clear h hb2 hx hy hV hv
  unfold so at HC ⊢
  unfold vl
  go_enter Tryz.func25, Tryz.ntmps25
  go_wp2_with fail
  rw [← HV.out]
  refine HC.out.mono ?_
  rintro e w1 ⟨rfl, hb⟩
  have HX1 := Lib.hid (HX.out.below hb)
  have HY1 := Lib.hid (HY.out.below hb)
  have HZ1 := Lib.hid (HZ.out.below hb)
  have HB1 := Lib.hid (below_ext2 HB.out hb)
  clear x0 x1 x2 hb HC HV HX HY HZ HB
  obtain ⟨x0, x1, x2⟩ := HY1.out.k3
  go_wp2_with fail
  refine (HVA.out _).mono ?_
  rintro e w2 ⟨rfl, hb⟩
  have HX2 := Lib.hid (HX1.out.below hb)
  have HY2 := Lib.hid (HY1.out.below hb)
  have HZ2 := Lib.hid (HZ1.out.below hb)
  have HB2 := Lib.hid (below_ext2 HB1.out hb)
  clear x0 x1 x2 hb HX1 HY1 HZ1 HB1 HVA
  obtain ⟨y0, y1, y2⟩ := HX2.out.k3
  obtain ⟨u0, u1, u2⟩ := HY2.out.k3
  have hz2 := HZ2.out
  have k0 := hz2.cell 0
  have k1 := hz2.cell 1
  have k2 := hz2.cell 2
  have z0 := hz2.free 0
  have z1 := hz2.free 1
  have z2 := hz2.free 2
  have HZE := Lib.hid (z3 (v0 := .int .i64 0) (v1 := .int .i64 0) (v2 := .string ⟨#[]⟩) hz2)
  have HBE := Lib.hid (((HB2.out.setCell (p := ⟨w.heap.size + 2, 0, none⟩) (by show w.heap.size ≤ w.heap.size + 2; omega) (.int .i64 0)).setCell (p := ⟨w.heap.size + 2, 1, none⟩) (by show w.heap.size ≤ w.heap.size + 2; omega) (.int .i64 0)).setCell (p := ⟨w.heap.size + 2, 2, none⟩) (by show w.heap.size ≤ w.heap.size + 2; omega) (.string ⟨#[]⟩))
  clear hz2
  go_wp2_with fail
  refine bodyPost_ret (bx_ret2 HZE.out rfl _ rfl Tryz.underlying25 rfl info_val) rfl ?_
  exact ⟨rfl, HBE.out⟩
set_option maxHeartbeats 1600000 in
theorem rclamp_no1 (k lo hi kv n : Int) (s : Bs) (w : World) (h : soB k lo hi = false) : Calls Tryz.prog 26 #[so k lo hi, vl kv n s] w (Tells w (.tuple #[vl 0 0 [], .int .i64 1])) := by
  obtain ⟨V, hV⟩ : ∃ V, V = ((w.alloc (.cells #[.int .i64 k, .int .i64 lo, .int .i64 hi] 23)).alloc (.cells #[.int .i64 kv, .int .i64 n, .string (ofL s)] 25)).alloc (.cells #[.int .i64 0, .int .i64 0, .string ⟨#[]⟩] 25) := ⟨_, rfl⟩
  have hb2 := al3 w (.cells #[.int .i64 k, .int .i64 lo, .int .i64 hi] 23) (.cells #[.int .i64 kv, .int .i64 n, .string (ofL s)] 25) (.cells #[.int .i64 0, .int .i64 0, .string ⟨#[]⟩] 25)
  have hx := heap_3a w (.cells #[.int .i64 k, .int .i64 lo, .int .i64 hi] 23) (.cells #[.int .i64 kv, .int .i64 n, .string (ofL s)] 25) (.cells #[.int .i64 0, .int .i64 0, .string ⟨#[]⟩] 25)
  have hv := heap_3b w (.cells #[.int .i64 k, .int .i64 lo, .int .i64 hi] 23) (.cells #[.int .i64 kv, .int .i64 n, .string (ofL s)] 25) (.cells #[.int .i64 0, .int .i64 0, .string ⟨#[]⟩] 25)
  have hy := heap_3c w (.cells #[.int .i64 k, .int .i64 lo, .int .i64 hi] 23) (.cells #[.int .i64 kv, .int .i64 n, .string (ofL s)] 25) (.cells #[.int .i64 0, .int .i64 0, .string ⟨#[]⟩] 25)
  rw [← hV] at hb2 hx hy hv
  have HC := Lib.hid (rso_walk k lo hi V)
  rw [h] at HC
  have HX := Lib.hid (show Bx V w.heap.size 23 #[.int .i64 k, .int .i64 lo, .int .i64 hi] from hx)
  have HY := Lib.hid (show Bx V (w.heap.size + 1) 25 #[.int .i64 kv, .int .i64 n, .string (ofL s)] from hv)
  have HZ := Lib.hid (show Bx V (w.heap.size + 2) 25 #[.int .i64 0, .int .i64 0, .string ⟨#[]⟩] from hy)
  have HB := Lib.hid hb2
  have HV := Lib.hid hV
  have x0 := HX.out.cell 0
  have x1 := HX.out.cell 1
  have x2 := HX.out.cell 2
  rw [hV] at x0 x1 x2
  clear h hb2 hx hy hV hv
  unfold so at HC ⊢
  unfold vl
  go_enter Tryz.func26, Tryz.ntmps26
  go_wp2_with fail
  rw [← HV.out]
  refine HC.out.mono ?_
  rintro e w1 ⟨rfl, hb⟩
  have HX1 := Lib.hid (HX.out.below hb)
  have HY1 := Lib.hid (HY.out.below hb)
  have HZ1 := Lib.hid (HZ.out.below hb)
  have HB1 := Lib.hid (below_ext2 HB.out hb)
  clear x0 x1 x2 hb HC HV HX HY HZ HB
  have hz2 := HZ1.out
  have k0 := hz2.cell 0
  have k1 := hz2.cell 1
  have k2 := hz2.cell 2
  have z0 := hz2.free 0
  have z1 := hz2.free 1
  have z2 := hz2.free 2
  have HZE := Lib.hid (z3 (v0 := .int .i64 0) (v1 := .int .i64 0) (v2 := .string ⟨#[]⟩) hz2)
  have HBE := Lib.hid (((HB1.out.setCell (p := ⟨w.heap.size + 2, 0, none⟩) (by show w.heap.size ≤ w.heap.size + 2; omega) (.int .i64 0)).setCell (p := ⟨w.heap.size + 2, 1, none⟩) (by show w.heap.size ≤ w.heap.size + 2; omega) (.int .i64 0)).setCell (p := ⟨w.heap.size + 2, 2, none⟩) (by show w.heap.size ≤ w.heap.size + 2; omega) (.string ⟨#[]⟩))
  clear hz2
  go_wp2_with fail
  refine bodyPost_ret (bx_ret2 HZE.out rfl _ rfl Tryz.underlying25 rfl info_val) rfl ?_
  exact ⟨rfl, HBE.out⟩
set_option maxHeartbeats 1600000 in
theorem rclamp_no2 (k lo hi kv n : Int) (s : Bs) (w : World) (h : soB k lo hi = true) (hv : vlB kv n s = false) : Calls Tryz.prog 26 #[so k lo hi, vl kv n s] w (Tells w (.tuple #[vl 0 0 [], .int .i64 1])) := by
  have HVA := Lib.hid (fun W => rvalid_any kv n s W)
  rw [hv] at HVA
  clear hv
  unfold vl at HVA
  obtain ⟨V, hV⟩ : ∃ V, V = ((w.alloc (.cells #[.int .i64 k, .int .i64 lo, .int .i64 hi] 23)).alloc (.cells #[.int .i64 kv, .int .i64 n, .string (ofL s)] 25)).alloc (.cells #[.int .i64 0, .int .i64 0, .string ⟨#[]⟩] 25) := ⟨_, rfl⟩
  have hb2 := al3 w (.cells #[.int .i64 k, .int .i64 lo, .int .i64 hi] 23) (.cells #[.int .i64 kv, .int .i64 n, .string (ofL s)] 25) (.cells #[.int .i64 0, .int .i64 0, .string ⟨#[]⟩] 25)
  have hx := heap_3a w (.cells #[.int .i64 k, .int .i64 lo, .int .i64 hi] 23) (.cells #[.int .i64 kv, .int .i64 n, .string (ofL s)] 25) (.cells #[.int .i64 0, .int .i64 0, .string ⟨#[]⟩] 25)
  have hv := heap_3b w (.cells #[.int .i64 k, .int .i64 lo, .int .i64 hi] 23) (.cells #[.int .i64 kv, .int .i64 n, .string (ofL s)] 25) (.cells #[.int .i64 0, .int .i64 0, .string ⟨#[]⟩] 25)
  have hy := heap_3c w (.cells #[.int .i64 k, .int .i64 lo, .int .i64 hi] 23) (.cells #[.int .i64 kv, .int .i64 n, .string (ofL s)] 25) (.cells #[.int .i64 0, .int .i64 0, .string ⟨#[]⟩] 25)
  rw [← hV] at hb2 hx hy hv
  have HC := Lib.hid (rso_walk k lo hi V)
  rw [h] at HC
  have HX := Lib.hid (show Bx V w.heap.size 23 #[.int .i64 k, .int .i64 lo, .int .i64 hi] from hx)
  have HY := Lib.hid (show Bx V (w.heap.size + 1) 25 #[.int .i64 kv, .int .i64 n, .string (ofL s)] from hv)
  have HZ := Lib.hid (show Bx V (w.heap.size + 2) 25 #[.int .i64 0, .int .i64 0, .string ⟨#[]⟩] from hy)
  have HB := Lib.hid hb2
  have HV := Lib.hid hV
  have x0 := HX.out.cell 0
  have x1 := HX.out.cell 1
  have x2 := HX.out.cell 2
  rw [hV] at x0 x1 x2
  clear h hb2 hx hy hV hv
  unfold so at HC ⊢
  unfold vl
  go_enter Tryz.func26, Tryz.ntmps26
  go_wp2_with fail
  rw [← HV.out]
  refine HC.out.mono ?_
  rintro e w1 ⟨rfl, hb⟩
  have HX1 := Lib.hid (HX.out.below hb)
  have HY1 := Lib.hid (HY.out.below hb)
  have HZ1 := Lib.hid (HZ.out.below hb)
  have HB1 := Lib.hid (below_ext2 HB.out hb)
  clear x0 x1 x2 hb HC HV HX HY HZ HB
  obtain ⟨x0, x1, x2⟩ := HY1.out.k3
  go_wp2_with fail
  refine (HVA.out _).mono ?_
  rintro e w2 ⟨rfl, hb⟩
  have HX2 := Lib.hid (HX1.out.below hb)
  have HY2 := Lib.hid (HY1.out.below hb)
  have HZ2 := Lib.hid (HZ1.out.below hb)
  have HB2 := Lib.hid (below_ext2 HB1.out hb)
  clear x0 x1 x2 hb HX1 HY1 HZ1 HB1 HVA
  have hz2 := HZ2.out
  have k0 := hz2.cell 0
  have k1 := hz2.cell 1
  have k2 := hz2.cell 2
  have z0 := hz2.free 0
  have z1 := hz2.free 1
  have z2 := hz2.free 2
  have HZE := Lib.hid (z3 (v0 := .int .i64 0) (v1 := .int .i64 0) (v2 := .string ⟨#[]⟩) hz2)
  have HBE := Lib.hid (((HB2.out.setCell (p := ⟨w.heap.size + 2, 0, none⟩) (by show w.heap.size ≤ w.heap.size + 2; omega) (.int .i64 0)).setCell (p := ⟨w.heap.size + 2, 1, none⟩) (by show w.heap.size ≤ w.heap.size + 2; omega) (.int .i64 0)).setCell (p := ⟨w.heap.size + 2, 2, none⟩) (by show w.heap.size ≤ w.heap.size + 2; omega) (.string ⟨#[]⟩))
  clear hz2
  go_wp2_with fail
  refine bodyPost_ret (bx_ret2 HZE.out rfl _ rfl Tryz.underlying25 rfl info_val) rfl ?_
  exact ⟨rfl, HBE.out⟩
set_option maxHeartbeats 1600000 in
theorem rclamp_no3 (k lo hi kv n : Int) (s : Bs) (w : World) (h : soB k lo hi = true) (hv : vlB kv n s = true) (hk : k ≠ kv) : Calls Tryz.prog 26 #[so k lo hi, vl kv n s] w (Tells w (.tuple #[vl 0 0 [], .int .i64 11])) := by
  obtain ⟨g1, g2⟩ := eqb k kv hk
  have g3 : (k != kv) = true := by rw [bne, g1]; rfl
  have HVA := Lib.hid (fun W => rvalid_any kv n s W)
  rw [hv] at HVA
  clear hv
  unfold vl at HVA
  obtain ⟨V, hV⟩ : ∃ V, V = ((w.alloc (.cells #[.int .i64 k, .int .i64 lo, .int .i64 hi] 23)).alloc (.cells #[.int .i64 kv, .int .i64 n, .string (ofL s)] 25)).alloc (.cells #[.int .i64 0, .int .i64 0, .string ⟨#[]⟩] 25) := ⟨_, rfl⟩
  have hb2 := al3 w (.cells #[.int .i64 k, .int .i64 lo, .int .i64 hi] 23) (.cells #[.int .i64 kv, .int .i64 n, .string (ofL s)] 25) (.cells #[.int .i64 0, .int .i64 0, .string ⟨#[]⟩] 25)
  have hx := heap_3a w (.cells #[.int .i64 k, .int .i64 lo, .int .i64 hi] 23) (.cells #[.int .i64 kv, .int .i64 n, .string (ofL s)] 25) (.cells #[.int .i64 0, .int .i64 0, .string ⟨#[]⟩] 25)
  have hv := heap_3b w (.cells #[.int .i64 k, .int .i64 lo, .int .i64 hi] 23) (.cells #[.int .i64 kv, .int .i64 n, .string (ofL s)] 25) (.cells #[.int .i64 0, .int .i64 0, .string ⟨#[]⟩] 25)
  have hy := heap_3c w (.cells #[.int .i64 k, .int .i64 lo, .int .i64 hi] 23) (.cells #[.int .i64 kv, .int .i64 n, .string (ofL s)] 25) (.cells #[.int .i64 0, .int .i64 0, .string ⟨#[]⟩] 25)
  rw [← hV] at hb2 hx hy hv
  have HC := Lib.hid (rso_walk k lo hi V)
  rw [h] at HC
  have HX := Lib.hid (show Bx V w.heap.size 23 #[.int .i64 k, .int .i64 lo, .int .i64 hi] from hx)
  have HY := Lib.hid (show Bx V (w.heap.size + 1) 25 #[.int .i64 kv, .int .i64 n, .string (ofL s)] from hv)
  have HZ := Lib.hid (show Bx V (w.heap.size + 2) 25 #[.int .i64 0, .int .i64 0, .string ⟨#[]⟩] from hy)
  have HB := Lib.hid hb2
  have HV := Lib.hid hV
  have x0 := HX.out.cell 0
  have x1 := HX.out.cell 1
  have x2 := HX.out.cell 2
  rw [hV] at x0 x1 x2
  clear h hb2 hx hy hV hv
  unfold so at HC ⊢
  unfold vl
  go_enter Tryz.func26, Tryz.ntmps26
  go_wp2_with fail
  rw [← HV.out]
  refine HC.out.mono ?_
  rintro e w1 ⟨rfl, hb⟩
  have HX1 := Lib.hid (HX.out.below hb)
  have HY1 := Lib.hid (HY.out.below hb)
  have HZ1 := Lib.hid (HZ.out.below hb)
  have HB1 := Lib.hid (below_ext2 HB.out hb)
  clear x0 x1 x2 hb HC HV HX HY HZ HB
  obtain ⟨x0, x1, x2⟩ := HY1.out.k3
  go_wp2_with fail
  refine (HVA.out _).mono ?_
  rintro e w2 ⟨rfl, hb⟩
  have HX2 := Lib.hid (HX1.out.below hb)
  have HY2 := Lib.hid (HY1.out.below hb)
  have HZ2 := Lib.hid (HZ1.out.below hb)
  have HB2 := Lib.hid (below_ext2 HB1.out hb)
  clear x0 x1 x2 hb HX1 HY1 HZ1 HB1 HVA
  obtain ⟨y0, y1, y2⟩ := HX2.out.k3
  obtain ⟨u0, u1, u2⟩ := HY2.out.k3
  have hz2 := HZ2.out
  have k0 := hz2.cell 0
  have k1 := hz2.cell 1
  have k2 := hz2.cell 2
  have z0 := hz2.free 0
  have z1 := hz2.free 1
  have z2 := hz2.free 2
  have HZE := Lib.hid (z3 (v0 := .int .i64 0) (v1 := .int .i64 0) (v2 := .string ⟨#[]⟩) hz2)
  have HBE := Lib.hid (((HB2.out.setCell (p := ⟨w.heap.size + 2, 0, none⟩) (by show w.heap.size ≤ w.heap.size + 2; omega) (.int .i64 0)).setCell (p := ⟨w.heap.size + 2, 1, none⟩) (by show w.heap.size ≤ w.heap.size + 2; omega) (.int .i64 0)).setCell (p := ⟨w.heap.size + 2, 2, none⟩) (by show w.heap.size ≤ w.heap.size + 2; omega) (.string ⟨#[]⟩))
  clear hz2
  go_wp2_with fail
  refine bodyPost_ret (bx_ret2 HZE.out rfl _ rfl Tryz.underlying25 rfl info_val) rfl ?_
  exact ⟨rfl, HBE.out⟩
end Go.Proofs.YtnainhpcmoekcaaGreatDoor
