/- value: Least of both sides at any sort (tools/gen_vls.py). -/
import Derived.Test.YtnainhpcmoekcaaGreatDoorVaRe
import Derived.Test.YtnainhpcmoekcaaGreatDoorVaFt
import Derived.Test.YtnainhpcmoekcaaGreatDoorVaJ
namespace Go.Proofs.YtnainhpcmoekcaaGreatDoor
open Go.RowKit

/-- Words in any order, and a struct stored into a box of one's own. -/
structure S5 (W : World) (xb zb : Nat) (xs cs : Array Value) (val : Nat → Value) (L : Nat → Bool) (vs : Nat → Value) (w : World) : Prop where
  v : ∀ i, L i = true → vs i = val i
  z : Bx w zb 25 (if L 6 = true then cs else #[.int .i64 0, .int .i64 0, .string ⟨#[]⟩])
  x : Bx w xb 23 xs
  b : Below W.heap.size W w
section
variable {W w w' : World} {xb zb : Nat} {xs cs : Array Value} {val : Nat → Value} {L : Nat → Bool} {vs : Nat → Value}
theorem S5.word (h : S5 W xb zb xs cs val L vs w) (i : Nat) (h6 : 6 ≠ i) (hb : Below w.heap.size w w') : S5 W xb zb xs cs val (updB L i) (updV vs i (val i)) w' := by
  refine ⟨fun j hl => ?_, ?_, h.x.below hb, h.b.trans (hb.mono h.b.size)⟩
  · by_cases e : j = i
    · subst e; rw [updV_self]
    · rw [updV_ne _ _ e]; exact h.v j (by rwa [updB_ne L e] at hl)
  · rw [updB_ne L h6]; exact h.z.below hb
theorem S5.put (h : S5 W xb zb xs cs val L vs w) (hz : W.heap.size ≤ zb) (hne : xb ≠ zb) (hu : val 6 = undef) : S5 W xb zb xs cs val (updB L 6) (updV vs 6 undef) (w.setRow zb cs) := by
  refine ⟨fun j hl => ?_, ?_, h.x.rowO hne, below_setRow h.b hz _⟩
  · by_cases e : j = 6
    · subst e; rw [updV_self, hu]
    · rw [updV_ne _ _ e]; exact h.v j (by rwa [updB_ne L e] at hl)
  · rw [updB_self, if_pos rfl]; exact h.z.row
end
theorem least_bad (k lo hi : Int) (w : World) (h : soB k lo hi = false) : Calls Tryz.prog 23 #[so k lo hi] w (Tells w (.tuple #[vl 0 0 [], .int .i64 1])) := by
  obtain ⟨V, hV⟩ : ∃ V, V = (w.alloc (.cells #[.int .i64 k, .int .i64 lo, .int .i64 hi] 23)).alloc (.cells #[.int .i64 0, .int .i64 0, .string ⟨#[]⟩] 25) := ⟨_, rfl⟩
  have hb2 := al2 w (.cells #[.int .i64 k, .int .i64 lo, .int .i64 hi] 23) (.cells #[.int .i64 0, .int .i64 0, .string ⟨#[]⟩] 25)
  have hx := heap_alloc_2 w (.cells #[.int .i64 k, .int .i64 lo, .int .i64 hi] 23) (.cells #[.int .i64 0, .int .i64 0, .string ⟨#[]⟩] 25)
  have hy := heap_alloc_2' w (.cells #[.int .i64 k, .int .i64 lo, .int .i64 hi] 23) (.cells #[.int .i64 0, .int .i64 0, .string ⟨#[]⟩] 25)
  rw [← hV] at hb2 hx hy
  have HC := Lib.hid (so_walk k lo hi V)
  rw [h] at HC
  have HX := Lib.hid (show Bx V w.heap.size 23 #[.int .i64 k, .int .i64 lo, .int .i64 hi] from hx)
  have HZ := Lib.hid (show Bx V (w.heap.size + 1) 25 #[.int .i64 0, .int .i64 0, .string ⟨#[]⟩] from hy)
  have HB := Lib.hid hb2
  have HV := Lib.hid hV
  have x0 := HX.out.cell 0
  have x1 := HX.out.cell 1
  have x2 := HX.out.cell 2
  rw [hV] at x0 x1 x2
  clear h hb2 hx hy hV
  unfold so at HC ⊢
  go_enter Tryz.func23, Tryz.ntmps23
  go_wp2_with fail
  rw [← HV.out]
  refine HC.out.mono ?_
  rintro e w2 ⟨rfl, hb⟩
  have hz2 := HZ.out.below hb
  have y0 := (HX.out.below hb).cell 0
  have y1 := (HX.out.below hb).cell 1
  have k0 := hz2.cell 0
  have k1 := hz2.cell 1
  have k2 := hz2.cell 2
  have z0 := hz2.free 0
  have z1 := hz2.free 1
  have z2 := hz2.free 2
  have HZE := Lib.hid (z3 (v0 := .int .i64 0) (v1 := .int .i64 0) (v2 := .string ⟨#[]⟩) hz2)
  have HBE := Lib.hid ((((below_ext2 HB.out hb).setCell (p := ⟨w.heap.size + 1, 0, none⟩) (by show w.heap.size ≤ w.heap.size + 1; omega) (.int .i64 0)).setCell (p := ⟨w.heap.size + 1, 1, none⟩) (by show w.heap.size ≤ w.heap.size + 1; omega) (.int .i64 0)).setCell (p := ⟨w.heap.size + 1, 2, none⟩) (by show w.heap.size ≤ w.heap.size + 1; omega) (.string ⟨#[]⟩))
  clear x0 x1 x2 hb hz2 HC y0 y1
  go_wp2_with fail
  refine bodyPost_ret (bx_ret2 HZE.out rfl _ rfl Tryz.underlying25 rfl info_val) rfl ?_
  exact ⟨rfl, HBE.out⟩
theorem rleast_bad (k lo hi : Int) (w : World) (h : soB k lo hi = false) : Calls Tryz.prog 24 #[so k lo hi] w (Tells w (.tuple #[vl 0 0 [], .int .i64 1])) := by
  obtain ⟨V, hV⟩ : ∃ V, V = (w.alloc (.cells #[.int .i64 k, .int .i64 lo, .int .i64 hi] 23)).alloc (.cells #[.int .i64 0, .int .i64 0, .string ⟨#[]⟩] 25) := ⟨_, rfl⟩
  have hb2 := al2 w (.cells #[.int .i64 k, .int .i64 lo, .int .i64 hi] 23) (.cells #[.int .i64 0, .int .i64 0, .string ⟨#[]⟩] 25)
  have hx := heap_alloc_2 w (.cells #[.int .i64 k, .int .i64 lo, .int .i64 hi] 23) (.cells #[.int .i64 0, .int .i64 0, .string ⟨#[]⟩] 25)
  have hy := heap_alloc_2' w (.cells #[.int .i64 k, .int .i64 lo, .int .i64 hi] 23) (.cells #[.int .i64 0, .int .i64 0, .string ⟨#[]⟩] 25)
  rw [← hV] at hb2 hx hy
  have HC := Lib.hid (rso_walk k lo hi V)
  rw [h] at HC
  have HX := Lib.hid (show Bx V w.heap.size 23 #[.int .i64 k, .int .i64 lo, .int .i64 hi] from hx)
  have HZ := Lib.hid (show Bx V (w.heap.size + 1) 25 #[.int .i64 0, .int .i64 0, .string ⟨#[]⟩] from hy)
  have HB := Lib.hid hb2
  have HV := Lib.hid hV
  have x0 := HX.out.cell 0
  have x1 := HX.out.cell 1
  have x2 := HX.out.cell 2
  rw [hV] at x0 x1 x2
  clear h hb2 hx hy hV
  unfold so at HC ⊢
  go_enter Tryz.func24, Tryz.ntmps24
  go_wp2_with fail
  rw [← HV.out]
  refine HC.out.mono ?_
  rintro e w2 ⟨rfl, hb⟩
  have hz2 := HZ.out.below hb
  have y0 := (HX.out.below hb).cell 0
  have y1 := (HX.out.below hb).cell 1
  have k0 := hz2.cell 0
  have k1 := hz2.cell 1
  have k2 := hz2.cell 2
  have z0 := hz2.free 0
  have z1 := hz2.free 1
  have z2 := hz2.free 2
  have HZE := Lib.hid (z3 (v0 := .int .i64 0) (v1 := .int .i64 0) (v2 := .string ⟨#[]⟩) hz2)
  have HBE := Lib.hid ((((below_ext2 HB.out hb).setCell (p := ⟨w.heap.size + 1, 0, none⟩) (by show w.heap.size ≤ w.heap.size + 1; omega) (.int .i64 0)).setCell (p := ⟨w.heap.size + 1, 1, none⟩) (by show w.heap.size ≤ w.heap.size + 1; omega) (.int .i64 0)).setCell (p := ⟨w.heap.size + 1, 2, none⟩) (by show w.heap.size ≤ w.heap.size + 1; omega) (.string ⟨#[]⟩))
  clear x0 x1 x2 hb hz2 HC y0 y1
  go_wp2_with fail
  refine bodyPost_ret (bx_ret2 HZE.out rfl _ rfl Tryz.underlying25 rfl info_val) rfl ?_
  exact ⟨rfl, HBE.out⟩
set_option maxRecDepth 100000 in
set_option maxHeartbeats 1600000 in
theorem least_text (lo hi : Int) (w : World) (h : soB 2 lo hi = true) (h0 : 0 ≤ lo) (h1 : lo ≤ 40) : Calls Tryz.prog 23 #[so 2 lo hi] w (Tells w (.tuple #[vl 2 0 (letA lo.toNat), .int .i64 0])) := by
  obtain ⟨n, rfl⟩ : ∃ n : Nat, lo = (n : Int) := ⟨lo.toNat, by omega⟩
  have HR := Lib.hid (fun W => repeat_any n W (by omega))
  rw [Int.toNat_natCast]
  clear h0 h1
  obtain ⟨V, hV⟩ : ∃ V, V = (w.alloc (.cells #[.int .i64 2, .int .i64 (n : Int), .int .i64 hi] 23)).alloc (.cells #[.int .i64 0, .int .i64 0, .string ⟨#[]⟩] 25) := ⟨_, rfl⟩
  have hb2 := al2 w (.cells #[.int .i64 2, .int .i64 (n : Int), .int .i64 hi] 23) (.cells #[.int .i64 0, .int .i64 0, .string ⟨#[]⟩] 25)
  have hx := heap_alloc_2 w (.cells #[.int .i64 2, .int .i64 (n : Int), .int .i64 hi] 23) (.cells #[.int .i64 0, .int .i64 0, .string ⟨#[]⟩] 25)
  have hy := heap_alloc_2' w (.cells #[.int .i64 2, .int .i64 (n : Int), .int .i64 hi] 23) (.cells #[.int .i64 0, .int .i64 0, .string ⟨#[]⟩] 25)
  rw [← hV] at hb2 hx hy
  have HC := Lib.hid (so_walk 2 (n : Int) hi V)
  rw [h] at HC
  have HX := Lib.hid (show Bx V w.heap.size 23 #[.int .i64 2, .int .i64 (n : Int), .int .i64 hi] from hx)
  have HZ := Lib.hid (show Bx V (w.heap.size + 1) 25 #[.int .i64 0, .int .i64 0, .string ⟨#[]⟩] from hy)
  have HB := Lib.hid hb2
  have HV := Lib.hid hV
  have x0 := HX.out.cell 0
  have x1 := HX.out.cell 1
  have x2 := HX.out.cell 2
  rw [hV] at x0 x1 x2
  clear h hb2 hx hy hV
  unfold so at HC ⊢
  go_enter Tryz.func23, Tryz.ntmps23
  go_wp2_with fail
  rw [← HV.out]
  refine HC.out.mono ?_
  rintro e w2 ⟨rfl, hb⟩
  have y0 := (HX.out.below hb).cell 0
  have y1 := (HX.out.below hb).cell 1
  have HX2 := Lib.hid (HX.out.below hb)
  have HZ2 := Lib.hid (HZ.out.below hb)
  have HB2 := Lib.hid (below_ext2 HB.out hb)
  clear x0 x1 x2 hb HC HX HZ HB
  go_wp2_with fail
  refine region_invE (n := 22) (S5 w w.heap.size (w.heap.size + 1) #[.int .i64 2, .int .i64 (n : Int), .int .i64 hi] #[.int .i64 2, .int .i64 0, .string (ofL (letA n))] (fun i => match i with | 0 => .pointer (some ⟨w.heap.size, 0, none⟩) | 1 => .int .i64 2 | 2 => .pointer (some ⟨w.heap.size, 1, none⟩) | 3 => .int .i64 (n : Int) | 4 => .string (ofL (letA n)) | 5 => vl 2 0 (letA n) | 6 => undef | _ => .int .i64 0)) (by kernel_rfl) (by kernel_rfl) rfl ?_ (allOps_spec ?_) ?_
  · intro vs
    exact ⟨fun _ h => absurd h (by simp), HZ2.out.below (Below.refl _ _).drew, HX2.out.below (Below.refl _ _).drew, HB2.out.drew⟩
  · refine ⟨?_, ?_, ?_, ?_, ?_, ?_, ?_, ?_, trivial⟩
    · intro L vs ac w6 hB hL hd hI
      have b1 : ac.tmps[1]?.getD undef = .pointer (some ⟨w.heap.size, 0, none⟩) := hB.at 1 (by kernel_rfl)
      exact stepI_run (v := .pointer (some ⟨w.heap.size, 0, none⟩)) rfl (by simp [execOp, go_sem, Act.eval, b1]) (hI.word 0 (by decide) (Below.refl _ _))
    · intro L vs ac w6 hB hL hd hI
      have h0 : L 0 = true := hd ⟨0, .data⟩ (by simp) rfl
      have b16 : ac.tmps[16]?.getD undef = .pointer (some ⟨w.heap.size, 0, none⟩) := (hB.val 0 h0 16 rfl).trans (hI.v 0 h0)
      have q0 := hI.x.cell 0
      exact stepI_run (v := .int .i64 2) rfl (by simp [execOp, go_sem, Act.eval, b16, q0]) (hI.word 1 (by decide) (Below.refl _ _))
    · intro L vs ac w6 hB hL hd hI
      have b1 : ac.tmps[1]?.getD undef = .pointer (some ⟨w.heap.size, 0, none⟩) := hB.at 1 (by kernel_rfl)
      exact stepI_run (v := .pointer (some ⟨w.heap.size, 1, none⟩)) rfl (by simp [execOp, go_sem, Act.eval, b1]) (hI.word 2 (by decide) (Below.refl _ _))
    · intro L vs ac w6 hB hL hd hI
      have h2 : L 2 = true := hd ⟨2, .data⟩ (by simp) rfl
      have b18 : ac.tmps[18]?.getD undef = .pointer (some ⟨w.heap.size, 1, none⟩) := (hB.val 2 h2 18 rfl).trans (hI.v 2 h2)
      have q1 := hI.x.cell 1
      exact stepI_run (v := .int .i64 (n : Int)) rfl (by simp [execOp, go_sem, Act.eval, b18, q1]) (hI.word 3 (by decide) (Below.refl _ _))
    · intro L vs ac w6 hB hL hd hI
      have h3 : L 3 = true := hd ⟨3, .data⟩ (by simp) rfl
      have b19 : ac.tmps[19]?.getD undef = .int .i64 (n : Int) := (hB.val 3 h3 19 rfl).trans (hI.v 3 h3)
      refine stepI_call (f := 51) (args := #[.string ⟨#[97]⟩, .int .i64 (n : Int)]) rfl (by simp [go_sem, b19]) ?_
      refine (HR.out w6).mono ?_
      rintro e w9 ⟨rfl, hb9⟩
      exact ⟨_, rfl, hI.word 4 (by decide) hb9⟩
    · intro L vs ac w6 hB hL hd hI
      have h1 : L 1 = true := hd ⟨1, .data⟩ (by simp) rfl
      have h4 : L 4 = true := hd ⟨4, .data⟩ (by simp) rfl
      have b17 : ac.tmps[17]?.getD undef = .int .i64 2 := (hB.val 1 h1 17 rfl).trans (hI.v 1 h1)
      have b20 : ac.tmps[20]?.getD undef = .string (ofL (letA n)) := (hB.val 4 h4 20 rfl).trans (hI.v 4 h4)
      exact stepI_run (v := vl 2 0 (letA n)) rfl (by simp [execOp, go_sem, Act.eval, b17, b20, vl]) (hI.word 5 (by decide) (Below.refl _ _))
    · intro L vs ac w6 hB hL hd hI
      have h5 : L 5 = true := hd ⟨5, .data⟩ (by simp) rfl
      have b2 : ac.tmps[2]?.getD undef = .pointer (some ⟨w.heap.size + 1, 0, none⟩) := hB.at 2 (by kernel_rfl)
      have b21 : ac.tmps[21]?.getD undef = vl 2 0 (letA n) := (hB.val 5 h5 21 rfl).trans (hI.v 5 h5)
      have hx := hI.z
      rw [hL, if_neg Bool.false_ne_true] at hx
      exact stepI_store_row rfl 25 2 21 rfl (w.heap.size + 1) _ b2 b21 _ hx info_val rfl (by simp [Value.oneCell']) (hI.put (by omega) (by omega) rfl)
    · intro L vs ac w6 hB hL hd hI
      exact stepI_run (v := .int .i64 0) rfl (by simp [execOp, go_sem, Act.eval]) (hI.word 7 (by decide) (Below.refl _ _))
  · intro L vs w7a hall hI
    have e7 : vs 7 = .int .i64 0 := hI.v 7 (hall 7 (by decide))
    have hx := hI.z
    rw [hall 6 (by decide), if_pos rfl] at hx
    have HZE := Lib.hid hx
    have HBE := Lib.hid hI.b
    clear hall hx hI
    simp only [putAll, Act.put, List.setIfInBounds_toArray, List.set_cons_zero, List.set_cons_succ, Nat.zero_add, Nat.reduceAdd, e7]
    clear e7
    go_wp2_with fail
    refine bodyPost_ret (bx_ret2 HZE.out rfl _ rfl Tryz.underlying25 rfl info_val) rfl ?_
    exact ⟨rfl, HBE.out⟩
theorem rleast_int (lo hi : Int) (w : World) (h : soB 1 lo hi = true) : Calls Tryz.prog 24 #[so 1 lo hi] w (Tells w (.tuple #[vl 1 lo [], .int .i64 0])) := by
  obtain ⟨V, hV⟩ : ∃ V, V = (w.alloc (.cells #[.int .i64 1, .int .i64 lo, .int .i64 hi] 23)).alloc (.cells #[.int .i64 0, .int .i64 0, .string ⟨#[]⟩] 25) := ⟨_, rfl⟩
  have hb2 := al2 w (.cells #[.int .i64 1, .int .i64 lo, .int .i64 hi] 23) (.cells #[.int .i64 0, .int .i64 0, .string ⟨#[]⟩] 25)
  have hx := heap_alloc_2 w (.cells #[.int .i64 1, .int .i64 lo, .int .i64 hi] 23) (.cells #[.int .i64 0, .int .i64 0, .string ⟨#[]⟩] 25)
  have hy := heap_alloc_2' w (.cells #[.int .i64 1, .int .i64 lo, .int .i64 hi] 23) (.cells #[.int .i64 0, .int .i64 0, .string ⟨#[]⟩] 25)
  rw [← hV] at hb2 hx hy
  have HC := Lib.hid (rso_walk 1 lo hi V)
  rw [h] at HC
  have HX := Lib.hid (show Bx V w.heap.size 23 #[.int .i64 1, .int .i64 lo, .int .i64 hi] from hx)
  have HZ := Lib.hid (show Bx V (w.heap.size + 1) 25 #[.int .i64 0, .int .i64 0, .string ⟨#[]⟩] from hy)
  have HB := Lib.hid hb2
  have HV := Lib.hid hV
  have x0 := HX.out.cell 0
  have x1 := HX.out.cell 1
  have x2 := HX.out.cell 2
  rw [hV] at x0 x1 x2
  clear h hb2 hx hy hV
  unfold so at HC ⊢
  go_enter Tryz.func24, Tryz.ntmps24
  go_wp2_with fail
  rw [← HV.out]
  refine HC.out.mono ?_
  rintro e w2 ⟨rfl, hb⟩
  have y0 := (HX.out.below hb).cell 0
  have y1 := (HX.out.below hb).cell 1
  have HX2 := Lib.hid (HX.out.below hb)
  have HZ2 := Lib.hid (HZ.out.below hb)
  have HB2 := Lib.hid (below_ext2 HB.out hb)
  clear x0 x1 x2 hb HC HX HZ HB
  go_wp2_with fail
  refine (rint_any lo _).mono ?_
  rintro e w3 ⟨rfl, hb⟩
  have hz2 := HZ2.out.below hb
  have k0 := hz2.cell 0
  have k1 := hz2.cell 1
  have k2 := hz2.cell 2
  have z0 := hz2.free 0
  have z1 := hz2.free 1
  have z2 := hz2.free 2
  have HZE := Lib.hid (z3 (v0 := .int .i64 1) (v1 := .int .i64 lo) (v2 := .string (ofL [])) hz2)
  have HBE := Lib.hid ((((below_ext2 HB2.out hb).setCell (p := ⟨w.heap.size + 1, 0, none⟩) (by show w.heap.size ≤ w.heap.size + 1; omega) (.int .i64 1)).setCell (p := ⟨w.heap.size + 1, 1, none⟩) (by show w.heap.size ≤ w.heap.size + 1; omega) (.int .i64 lo)).setCell (p := ⟨w.heap.size + 1, 2, none⟩) (by show w.heap.size ≤ w.heap.size + 1; omega) (.string (ofL [])))
  clear y0 y1 hb hz2
  unfold vl
  go_wp2_with fail
  refine bodyPost_ret (bx_ret2 HZE.out rfl _ rfl Tryz.underlying25 rfl info_val) rfl ?_
  exact ⟨rfl, HBE.out⟩
theorem rleast_text (lo hi : Int) (w : World) (h : soB 2 lo hi = true) (h1 : lo ≤ 40) : Calls Tryz.prog 24 #[so 2 lo hi] w (Tells w (.tuple #[vl 2 0 (letA lo.toNat), .int .i64 0])) := by
  have HL := Lib.hid (fun W => letters_any lo W (by omega))
  clear h1
  obtain ⟨V, hV⟩ : ∃ V, V = (w.alloc (.cells #[.int .i64 2, .int .i64 lo, .int .i64 hi] 23)).alloc (.cells #[.int .i64 0, .int .i64 0, .string ⟨#[]⟩] 25) := ⟨_, rfl⟩
  have hb2 := al2 w (.cells #[.int .i64 2, .int .i64 lo, .int .i64 hi] 23) (.cells #[.int .i64 0, .int .i64 0, .string ⟨#[]⟩] 25)
  have hx := heap_alloc_2 w (.cells #[.int .i64 2, .int .i64 lo, .int .i64 hi] 23) (.cells #[.int .i64 0, .int .i64 0, .string ⟨#[]⟩] 25)
  have hy := heap_alloc_2' w (.cells #[.int .i64 2, .int .i64 lo, .int .i64 hi] 23) (.cells #[.int .i64 0, .int .i64 0, .string ⟨#[]⟩] 25)
  rw [← hV] at hb2 hx hy
  have HC := Lib.hid (rso_walk 2 lo hi V)
  rw [h] at HC
  have HX := Lib.hid (show Bx V w.heap.size 23 #[.int .i64 2, .int .i64 lo, .int .i64 hi] from hx)
  have HZ := Lib.hid (show Bx V (w.heap.size + 1) 25 #[.int .i64 0, .int .i64 0, .string ⟨#[]⟩] from hy)
  have HB := Lib.hid hb2
  have HV := Lib.hid hV
  have x0 := HX.out.cell 0
  have x1 := HX.out.cell 1
  have x2 := HX.out.cell 2
  rw [hV] at x0 x1 x2
  clear h hb2 hx hy hV
  unfold so at HC ⊢
  go_enter Tryz.func24, Tryz.ntmps24
  go_wp2_with fail
  rw [← HV.out]
  refine HC.out.mono ?_
  rintro e w2 ⟨rfl, hb⟩
  have y0 := (HX.out.below hb).cell 0
  have y1 := (HX.out.below hb).cell 1
  have HX2 := Lib.hid (HX.out.below hb)
  have HZ2 := Lib.hid (HZ.out.below hb)
  have HB2 := Lib.hid (below_ext2 HB.out hb)
  clear x0 x1 x2 hb HC HX HZ HB
  go_wp2_with fail
  refine (HL.out _).mono ?_
  rintro e w3 ⟨rfl, hb3⟩
  have HZ3 := Lib.hid (HZ2.out.below hb3)
  have HB3 := Lib.hid (below_ext2 HB2.out hb3)
  clear y0 y1 hb3 HZ2 HB2
  go_wp2_with fail
  refine (rtext_any _ _).mono ?_
  rintro e w4 ⟨rfl, hb⟩
  have hz2 := HZ3.out.below hb
  have k0 := hz2.cell 0
  have k1 := hz2.cell 1
  have k2 := hz2.cell 2
  have z0 := hz2.free 0
  have z1 := hz2.free 1
  have z2 := hz2.free 2
  have HZE := Lib.hid (z3 (v0 := .int .i64 2) (v1 := .int .i64 0) (v2 := .string (ofL (letA lo.toNat))) hz2)
  have HBE := Lib.hid ((((below_ext2 HB3.out hb).setCell (p := ⟨w.heap.size + 1, 0, none⟩) (by show w.heap.size ≤ w.heap.size + 1; omega) (.int .i64 2)).setCell (p := ⟨w.heap.size + 1, 1, none⟩) (by show w.heap.size ≤ w.heap.size + 1; omega) (.int .i64 0)).setCell (p := ⟨w.heap.size + 1, 2, none⟩) (by show w.heap.size ≤ w.heap.size + 1; omega) (.string (ofL (letA lo.toNat))))
  clear hb hz2
  unfold vl
  go_wp2_with fail
  refine bodyPost_ret (bx_ret2 HZE.out rfl _ rfl Tryz.underlying25 rfl info_val) rfl ?_
  exact ⟨rfl, HBE.out⟩
/-- What Least says: kind, integer, text, error. -/
def lsR (k lo hi : Int) : (Int × Int × Bs) × Int := if soB k lo hi then (if k = 1 then ((1, lo, []), 0) else ((2, 0, letA lo.toNat), 0)) else ((0, 0, []), 1)
theorem so_kind {k lo hi : Int} (h : soB k lo hi = true) (h1 : k ≠ 1) : k = 2 ∧ 0 ≤ lo ∧ lo ≤ hi ∧ hi ≤ 40 := by
  unfold soB at h
  rw [if_neg h1] at h
  split at h
  · rename_i e
    rw [decide_eq_true_iff] at h
    exact ⟨e, h⟩
  · cases h
theorem least_any (k lo hi : Int) (w : World) : Calls Tryz.prog 23 #[so k lo hi] w (Tells w (.tuple #[vl (lsR k lo hi).1.1 (lsR k lo hi).1.2.1 (lsR k lo hi).1.2.2, .int .i64 (lsR k lo hi).2])) := by
  cases h : soB k lo hi with
  | false =>
    have e : lsR k lo hi = ((0, 0, []), 1) := by unfold lsR; rw [h]; rfl
    rw [e]
    exact least_bad k lo hi w h
  | true =>
    by_cases h1 : k = 1
    · subst h1
      have e : lsR 1 lo hi = ((1, lo, []), 0) := by unfold lsR; rw [h]; rfl
      rw [e]
      exact least_int lo hi w h
    · obtain ⟨rfl, h2, h3, h4⟩ := so_kind h h1
      have e : lsR 2 lo hi = ((2, 0, letA lo.toNat), 0) := by unfold lsR; rw [h]; rfl
      rw [e]
      exact least_text lo hi w h h2 (by omega)
theorem rleast_any (k lo hi : Int) (w : World) : Calls Tryz.prog 24 #[so k lo hi] w (Tells w (.tuple #[vl (lsR k lo hi).1.1 (lsR k lo hi).1.2.1 (lsR k lo hi).1.2.2, .int .i64 (lsR k lo hi).2])) := by
  cases h : soB k lo hi with
  | false =>
    have e : lsR k lo hi = ((0, 0, []), 1) := by unfold lsR; rw [h]; rfl
    rw [e]
    exact rleast_bad k lo hi w h
  | true =>
    by_cases h1 : k = 1
    · subst h1
      have e : lsR 1 lo hi = ((1, lo, []), 0) := by unfold lsR; rw [h]; rfl
      rw [e]
      exact rleast_int lo hi w h
    · obtain ⟨rfl, h2, h3, h4⟩ := so_kind h h1
      have e : lsR 2 lo hi = ((2, 0, letA lo.toNat), 0) := by unfold lsR; rw [h]; rfl
      rw [e]
      exact rleast_text lo hi w h (by omega)
end Go.Proofs.YtnainhpcmoekcaaGreatDoor
