/- value: Same of one value, Least and Clamp of integers. -/
import Derived.Test.YtnainhpcmoekcaaGreatDoorVaM
namespace Go.Proofs.YtnainhpcmoekcaaGreatDoor
open Go.RowKit

set_option maxRecDepth 100000 in
theorem cmpfunc_one (g1 g2 : Nat) (k n : Int) (s : Bs) (w : World) (h1 : Bx w g1 25 #[.int .i64 k, .int .i64 n, .string (ofL s)]) (h2 : Bx w g2 25 #[.int .i64 k, .int .i64 n, .string (ofL s)]) :
  Calls Tryz.prog 63 #[.slice (some ⟨g1, 0, none⟩) 1 1, .slice (some ⟨g2, 0, none⟩) 1 1, .func (.func 21) #[] #[]] w (Tells w (.int .i64 0)) := by
 have H1 := Lib.hid h1; have H2 := Lib.hid h2
 have HB0 := Lib.hid (Below.refl w.heap.size w)
 clear h1 h2
 go_enter Tryz.func63, Tryz.ntmps63
 go_wp2_with fail
 go_loopw [13] (fun vi wr => ∃ m : Nat, m ≤ 1 ∧ vi = .int .i64 (m : Int) ∧ Hid (Below w.heap.size w wr)) (fun vi _ => 1 - (intOf vi).toNat)
 case atStart => exact ⟨0, by omega, rfl, HB0⟩
 case round =>
  clear HB0
  obtain ⟨m, hm, rfl, HB⟩ := hrel
  match m, hm with
  | 0, _ =>
   have a0 := (H1.out.below HB.out).cell 0
   have a1 := (H1.out.below HB.out).cell 1
   have a2 := (H1.out.below HB.out).cell 2
   have hba := al1 wr (.cells #[.int .i64 k, .int .i64 n, .string (ofL s)] 25)
   have hx1 : Bx (wr.alloc (.cells #[.int .i64 k, .int .i64 n, .string (ofL s)] 25)) g2 25 #[.int .i64 k, .int .i64 n, .string (ofL s)] := (H2.out.below HB.out).below hba
   have b0 := (H2.out.below HB.out).cell 0
   have b1 := (H2.out.below HB.out).cell 1
   have b2 := (H2.out.below HB.out).cell 2
   have c0 := hx1.cell 0
   have c1 := hx1.cell 1
   have c2 := hx1.cell 2
   have HB2 := Lib.hid (HB.out.trans ((al2 wr (.cells #[.int .i64 k, .int .i64 n, .string (ofL s)] 25) (.cells #[.int .i64 k, .int .i64 n, .string (ofL s)] 25)).mono HB.out.size))
   have HC := Lib.hid (compare_same k n s ((wr.alloc (.cells #[.int .i64 k, .int .i64 n, .string (ofL s)] 25)).alloc (.cells #[.int .i64 k, .int .i64 n, .string (ofL s)] 25)))
   unfold vl at HC
   clear hba hx1 HB
   go_wp2_with fail
   refine HC.out.mono ?_
   rintro e w5 ⟨rfl, hb5⟩
   have HB5 := Lib.hid (HB2.out.trans (hb5.mono HB2.out.size))
   clear hb5
   go_wp2_with fail
   go_roundw
   case rel => exact ⟨1, by omega, by go_num, HB5⟩
   case measure => simp [intOf]
  | 1, _ =>
   go_wp2_with fail
   go_ret
   exact ⟨rfl, HB.out⟩
theorem same_one (g1 g2 : Nat) (k n : Int) (s : Bs) (w : World) (h1 : Bx w g1 25 #[.int .i64 k, .int .i64 n, .string (ofL s)]) (h2 : Bx w g2 25 #[.int .i64 k, .int .i64 n, .string (ofL s)]) :
  Calls Tryz.prog 37 #[.slice (some ⟨g1, 0, none⟩) 1 1, .slice (some ⟨g2, 0, none⟩) 1 1] w (Tells w (.bool true)) := by
 have HC := Lib.hid (cmpfunc_one g1 g2 k n s w h1 h2)
 clear h1 h2
 go_enter Tryz.func37, Tryz.ntmps37
 go_wp2_with fail
 refine HC.out.mono ?_
 rintro e w5 ⟨rfl, hb5⟩
 have HB := Lib.hid hb5
 clear hb5
 go_wp2_with fail
 go_ret
 exact ⟨rfl, HB.out⟩
theorem least_int (lo hi : Int) (w : World) (h : soB 1 lo hi = true) : Calls Tryz.prog 23 #[so 1 lo hi] w (Tells w (.tuple #[vl 1 lo [], .int .i64 0])) := by
 obtain ⟨V, hV⟩ : ∃ V, V = (w.alloc (.cells #[.int .i64 1, .int .i64 lo, .int .i64 hi] 23)).alloc (.cells #[.int .i64 0, .int .i64 0, .string ⟨#[]⟩] 25) := ⟨_, rfl⟩
 have hb2 := al2 w (.cells #[.int .i64 1, .int .i64 lo, .int .i64 hi] 23) (.cells #[.int .i64 0, .int .i64 0, .string ⟨#[]⟩] 25)
 have hx := heap_alloc_2 w (.cells #[.int .i64 1, .int .i64 lo, .int .i64 hi] 23) (.cells #[.int .i64 0, .int .i64 0, .string ⟨#[]⟩] 25)
 have hy := heap_alloc_2' w (.cells #[.int .i64 1, .int .i64 lo, .int .i64 hi] 23) (.cells #[.int .i64 0, .int .i64 0, .string ⟨#[]⟩] 25)
 rw [← hV] at hb2 hx hy
 have HC := Lib.hid (so_walk 1 lo hi V)
 rw [h] at HC
 have HX := Lib.hid (show Bx V w.heap.size 23 #[.int .i64 1, .int .i64 lo, .int .i64 hi] from hx)
 have HZ := Lib.hid (show Bx V (w.heap.size + 1) 25 #[.int .i64 0, .int .i64 0, .string ⟨#[]⟩] from hy)
 have HB := Lib.hid hb2
 have HV := Lib.hid hV
 have x0 := HX.out.cell 0
 have x1 := HX.out.cell 1
 have x2 := HX.out.cell 2
 rw [hV] at x0 x1 x2
 clear h hb2 hx hy hV
 unfold so at HC ⊢
 go_enter Tryz.func23, Tryz.ntmps23
 go_wp2_with fail
 rw [← HV.out]
 refine HC.out.mono ?_
 rintro e w2 ⟨rfl, hb⟩
 have hz2 := HZ.out.below hb
 have y0 := (HX.out.below hb).cell 0
 have y1 := (HX.out.below hb).cell 1
 have k0 := hz2.cell 0
 have k1 := hz2.cell 1
 have k2 := hz2.cell 2
 have z0 := hz2.free 0
 have z1 := hz2.free 1
 have z2 := hz2.free 2
 have HZE := Lib.hid (z3 (v0 := .int .i64 1) (v1 := .int .i64 lo) (v2 := .string ⟨#[]⟩) hz2)
 have HBE := Lib.hid ((((below_ext2 HB.out hb).setCell (p := ⟨w.heap.size + 1, 0, none⟩) (by show w.heap.size ≤ w.heap.size + 1; omega) (.int .i64 1)).setCell (p := ⟨w.heap.size + 1, 1, none⟩) (by show w.heap.size ≤ w.heap.size + 1; omega) (.int .i64 lo)).setCell (p := ⟨w.heap.size + 1, 2, none⟩) (by show w.heap.size ≤ w.heap.size + 1; omega) (.string ⟨#[]⟩))
 clear x0 x1 x2 hb hz2 HC
 have d0 : w.heap.size ≠ w.heap.size + 1 := by omega
 go_wp2_with fail
 refine bodyPost_ret (bx_ret2 HZE.out rfl _ rfl Tryz.underlying25 rfl info_val) rfl ?_
 exact ⟨rfl, HBE.out⟩
end Go.Proofs.YtnainhpcmoekcaaGreatDoor
