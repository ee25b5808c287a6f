/- value: Clamp of both sides at texts, the reference's at integers (tools/gen_vct.py). -/
import Derived.Test.YtnainhpcmoekcaaGreatDoorVaCl
namespace Go.Proofs.YtnainhpcmoekcaaGreatDoor
open Go.RowKit
set_option maxHeartbeats 1600000 in
theorem rclamp_int (lo hi n : Int) (w : World) (h : soB 1 lo hi = true) (hv : vlB 1 n [] = true) : Calls Tryz.prog 26 #[so 1 lo hi, vl 1 n []] w (Tells w (.tuple #[vl 1 (min (max n lo) hi) [], .int .i64 0])) := by
  have HVA := Lib.hid (fun W => rvalid_any 1 n [] W)
  rw [hv] at HVA
  clear hv
  unfold vl at HVA
  obtain ⟨V, hV⟩ : ∃ V, V = ((w.alloc (.cells #[.int .i64 1, .int .i64 lo, .int .i64 hi] 23)).alloc (.cells #[.int .i64 1, .int .i64 n, .string (ofL [])] 25)).alloc (.cells #[.int .i64 0, .int .i64 0, .string ⟨#[]⟩] 25) := ⟨_, rfl⟩
  have hb2 := al3 w (.cells #[.int .i64 1, .int .i64 lo, .int .i64 hi] 23) (.cells #[.int .i64 1, .int .i64 n, .string (ofL [])] 25) (.cells #[.int .i64 0, .int .i64 0, .string ⟨#[]⟩] 25)
  have hx := heap_3a w (.cells #[.int .i64 1, .int .i64 lo, .int .i64 hi] 23) (.cells #[.int .i64 1, .int .i64 n, .string (ofL [])] 25) (.cells #[.int .i64 0, .int .i64 0, .string ⟨#[]⟩] 25)
  have hv := heap_3b w (.cells #[.int .i64 1, .int .i64 lo, .int .i64 hi] 23) (.cells #[.int .i64 1, .int .i64 n, .string (ofL [])] 25) (.cells #[.int .i64 0, .int .i64 0, .string ⟨#[]⟩] 25)
  have hy := heap_3c w (.cells #[.int .i64 1, .int .i64 lo, .int .i64 hi] 23) (.cells #[.int .i64 1, .int .i64 n, .string (ofL [])] 25) (.cells #[.int .i64 0, .int .i64 0, .string ⟨#[]⟩] 25)
  rw [← hV] at hb2 hx hy hv
  have HC := Lib.hid (rso_walk 1 lo hi V)
  rw [h] at HC
  have HX := Lib.hid (show Bx V w.heap.size 23 #[.int .i64 1, .int .i64 lo, .int .i64 hi] from hx)
  have HY := Lib.hid (show Bx V (w.heap.size + 1) 25 #[.int .i64 1, .int .i64 n, .string (ofL [])] from hv)
  have HZ := Lib.hid (show Bx V (w.heap.size + 2) 25 #[.int .i64 0, .int .i64 0, .string ⟨#[]⟩] from hy)
  have HB := Lib.hid hb2
  have HV := Lib.hid hV
  have x0 := HX.out.cell 0
  have x1 := HX.out.cell 1
  have x2 := HX.out.cell 2
  rw [hV] at x0 x1 x2
  clear h hb2 hx hy hV hv
  unfold so at HC ⊢
  unfold vl
  go_enter Tryz.func26, Tryz.ntmps26
  go_wp2_with fail
  rw [← HV.out]
  refine HC.out.mono ?_
  rintro e w1 ⟨rfl, hb⟩
  have HX1 := Lib.hid (HX.out.below hb)
  have HY1 := Lib.hid (HY.out.below hb)
  have HZ1 := Lib.hid (HZ.out.below hb)
  have HB1 := Lib.hid (below_ext2 HB.out hb)
  clear x0 x1 x2 hb HC HV HX HY HZ HB
  obtain ⟨x0, x1, x2⟩ := HY1.out.k3
  go_wp2_with fail
  refine (HVA.out _).mono ?_
  rintro e w2 ⟨rfl, hb⟩
  have HX2 := Lib.hid (HX1.out.below hb)
  have HY2 := Lib.hid (HY1.out.below hb)
  have HZ2 := Lib.hid (HZ1.out.below hb)
  have HB2 := Lib.hid (below_ext2 HB1.out hb)
  clear x0 x1 x2 hb HX1 HY1 HZ1 HB1 HVA
  obtain ⟨y0, y1, y2⟩ := HX2.out.k3
  obtain ⟨u0, u1, u2⟩ := HY2.out.k3
  go_wp2_with fail
  refine (rint_any _ _).mono ?_
  rintro e w3 ⟨rfl, hb⟩
  have HZ3 := Lib.hid (HZ2.out.below hb)
  have HB3 := Lib.hid (below_ext2 HB2.out hb)
  clear hb y0 y1 y2 u0 u1 u2
  unfold vl
  have hz2 := HZ3.out
  have k0 := hz2.cell 0
  have k1 := hz2.cell 1
  have k2 := hz2.cell 2
  have z0 := hz2.free 0
  have z1 := hz2.free 1
  have z2 := hz2.free 2
  have HZE := Lib.hid (z3 (v0 := .int .i64 1) (v1 := .int .i64 (min (max n lo) hi)) (v2 := .string (ofL [])) hz2)
  have HBE := Lib.hid (((HB3.out.setCell (p := ⟨w.heap.size + 2, 0, none⟩) (by show w.heap.size ≤ w.heap.size + 2; omega) (.int .i64 1)).setCell (p := ⟨w.heap.size + 2, 1, none⟩) (by show w.heap.size ≤ w.heap.size + 2; omega) (.int .i64 (min (max n lo) hi))).setCell (p := ⟨w.heap.size + 2, 2, none⟩) (by show w.heap.size ≤ w.heap.size + 2; omega) (.string (ofL [])))
  clear hz2
  go_wp2_with fail
  refine bodyPost_ret (bx_ret2 HZE.out rfl _ rfl Tryz.underlying25 rfl info_val) rfl ?_
  exact ⟨rfl, HBE.out⟩
/-- The text that Clamp tells. -/
def clT (lo hi : Int) (s : Bs) : Bs := s.take (min (s.length : Int) hi).toNat ++ letA (lo - ((s.take (min (s.length : Int) hi).toNat).length : Int)).toNat
theorem ofL_app (a b : Bs) : ofL a ++ ofL b = ofL (a ++ b) := by
  apply ByteArray.ext
  simp [ofL]
/-- Words in any order, and a struct stored (operation m) into a box of one's own. -/
structure S6 (m : Nat) (W : World) (xb yb zb : Nat) (xs ys cs : Array Value) (val : Nat → Value) (L : Nat → Bool) (vs : Nat → Value) (w : World) : Prop where
  v : ∀ i, L i = true → vs i = val i
  z : Bx w zb 25 (if L m = true then cs else #[.int .i64 0, .int .i64 0, .string ⟨#[]⟩])
  x : Bx w xb 23 xs
  y : Bx w yb 25 ys
  b : Below W.heap.size W w
section
variable {m : Nat} {W w w' : World} {xb yb zb : Nat} {xs ys cs : Array Value} {val : Nat → Value} {L : Nat → Bool} {vs : Nat → Value}
theorem S6.word (h : S6 m W xb yb zb xs ys cs val L vs w) (i : Nat) (h6 : m ≠ i) (hb : Below w.heap.size w w') : S6 m W xb yb zb xs ys cs val (updB L i) (updV vs i (val i)) w' := by
  refine ⟨fun j hl => ?_, ?_, h.x.below hb, h.y.below hb, h.b.trans (hb.mono h.b.size)⟩
  · by_cases e : j = i
    · subst e; rw [updV_self]
    · rw [updV_ne _ _ e]; exact h.v j (by rwa [updB_ne L e] at hl)
  · rw [updB_ne L h6]; exact h.z.below hb
theorem S6.put (h : S6 m W xb yb zb xs ys cs val L vs w) (hz : W.heap.size ≤ zb) (hne : xb ≠ zb) (hny : yb ≠ zb) (hu : val m = undef) : S6 m W xb yb zb xs ys cs val (updB L m) (updV vs m undef) (w.setRow zb cs) := by
  refine ⟨fun j hl => ?_, ?_, h.x.rowO hne, h.y.rowO hny, below_setRow h.b hz _⟩
  · by_cases e : j = m
    · subst e; rw [updV_self, hu]
    · rw [updV_ne _ _ e]; exact h.v j (by rwa [updB_ne L e] at hl)
  · rw [updB_self, if_pos rfl]; exact h.z.row
end
set_option maxRecDepth 100000 in
set_option maxHeartbeats 3200000 in
theorem clamp_text (lo hi : Int) (s : Bs) (w : World) (h : soB 2 lo hi = true) (hv : vlB 2 0 s = true) (h0 : 0 ≤ lo) (h1 : lo ≤ hi) (h2 : hi ≤ 40) (hs : s.length ≤ 40) : Calls Tryz.prog 25 #[so 2 lo hi, vl 2 0 s] w (Tells w (.tuple #[vl 2 0 (clT lo hi s), .int .i64 0])) := by
  have hmn : 0 ≤ min (((ofL s).size : Nat) : Int) hi ∧ min (((ofL s).size : Nat) : Int) hi ≤ (((ofL s).size : Nat) : Int) := by omega
  obtain ⟨F, hF⟩ : ∃ F, F = s.take (min (s.length : Int) hi).toNat := ⟨_, rfl⟩
  obtain ⟨f, hf⟩ : ∃ f, f = F.length := ⟨_, rfl⟩
  obtain ⟨q, hq⟩ : ∃ q, q = (lo - (f : Int)).toNat := ⟨_, rfl⟩
  have HF := Lib.hid (show (ofL s).extract 0 (min (((ofL s).size : Nat) : Int) hi).toNat = ofL F by rw [ofL_extract, ofL_size, hF]; rfl)
  have HT := Lib.hid (show clT lo hi s = F ++ letA q by rw [hq, hf, hF]; rfl)
  have hfl : f ≤ 40 := by rw [hf, hF, List.length_take]; omega
  have hfz : (ofL F).size = f := by rw [ofL_size, hf]
  have hql : q ≤ 40 := by omega
  have HW := Lib.hid (show IntKind.i64.wrap (lo - (f : Int)) = lo - (f : Int) by rw [IntKind.wrap_i64]; omega)
  have HMX := Lib.hid (show max 0 (lo - (f : Int)) = (q : Int) by omega)
  have HFZ := Lib.hid hfz
  have HAP := Lib.hid (ofL_app F (letA q))
  have HQZ := Lib.hid (show (ofL (letA q)).size = q by rw [ofL_size, letA_len])
  have HCL := Lib.hid (fun W => clone_any F W (by omega))
  have HRE := Lib.hid (fun W => repeat_any q W (by omega))
  have HFQ := Lib.hid (show f ≤ 40 ∧ q ≤ 40 from ⟨hfl, hql⟩)
  rw [HT.out]
  clear h0 h1 h2 hs hF hf hq hfl hfz hql HT
  have HVA := Lib.hid (fun W => valid_any 2 0 s W)
  rw [hv] at HVA
  clear hv
  unfold vl at HVA
  obtain ⟨V, hV⟩ : ∃ V, V = ((w.alloc (.cells #[.int .i64 2, .int .i64 lo, .int .i64 hi] 23)).alloc (.cells #[.int .i64 2, .int .i64 0, .string (ofL s)] 25)).alloc (.cells #[.int .i64 0, .int .i64 0, .string ⟨#[]⟩] 25) := ⟨_, rfl⟩
  have hb2 := al3 w (.cells #[.int .i64 2, .int .i64 lo, .int .i64 hi] 23) (.cells #[.int .i64 2, .int .i64 0, .string (ofL s)] 25) (.cells #[.int .i64 0, .int .i64 0, .string ⟨#[]⟩] 25)
  have hx := heap_3a w (.cells #[.int .i64 2, .int .i64 lo, .int .i64 hi] 23) (.cells #[.int .i64 2, .int .i64 0, .string (ofL s)] 25) (.cells #[.int .i64 0, .int .i64 0, .string ⟨#[]⟩] 25)
  have hv := heap_3b w (.cells #[.int .i64 2, .int .i64 lo, .int .i64 hi] 23) (.cells #[.int .i64 2, .int .i64 0, .string (ofL s)] 25) (.cells #[.int .i64 0, .int .i64 0, .string ⟨#[]⟩] 25)
  have hy := heap_3c w (.cells #[.int .i64 2, .int .i64 lo, .int .i64 hi] 23) (.cells #[.int .i64 2, .int .i64 0, .string (ofL s)] 25) (.cells #[.int .i64 0, .int .i64 0, .string ⟨#[]⟩] 25)
  rw [← hV] at hb2 hx hy hv
  have HC := Lib.hid (so_walk 2 lo hi V)
  rw [h] at HC
  have HX := Lib.hid (show Bx V w.heap.size 23 #[.int .i64 2, .int .i64 lo, .int .i64 hi] from hx)
  have HY := Lib.hid (show Bx V (w.heap.size + 1) 25 #[.int .i64 2, .int .i64 0, .string (ofL s)] from hv)
  have HZ := Lib.hid (show Bx V (w.heap.size + 2) 25 #[.int .i64 0, .int .i64 0, .string ⟨#[]⟩] from hy)
  have HB := Lib.hid hb2
  have HV := Lib.hid hV
  have x0 := HX.out.cell 0
  have x1 := HX.out.cell 1
  have x2 := HX.out.cell 2
  rw [hV] at x0 x1 x2
  clear h hb2 hx hy hV hv
  unfold so at HC ⊢
  unfold vl
  go_enter Tryz.func25, Tryz.ntmps25
  go_wp2_with fail
  rw [← HV.out]
  refine HC.out.mono ?_
  rintro e w1 ⟨rfl, hb⟩
  have HX1 := Lib.hid (HX.out.below hb)
  have HY1 := Lib.hid (HY.out.below hb)
  have HZ1 := Lib.hid (HZ.out.below hb)
  have HB1 := Lib.hid (below_ext2 HB.out hb)
  clear x0 x1 x2 hb HC HV HX HY HZ HB
  obtain ⟨x0, x1, x2⟩ := HY1.out.k3
  go_wp2_with fail
  refine (HVA.out _).mono ?_
  rintro e w2 ⟨rfl, hb⟩
  have HX2 := Lib.hid (HX1.out.below hb)
  have HY2 := Lib.hid (HY1.out.below hb)
  have HZ2 := Lib.hid (HZ1.out.below hb)
  have HB2 := Lib.hid (below_ext2 HB1.out hb)
  clear x0 x1 x2 hb HX1 HY1 HZ1 HB1 HVA
  obtain ⟨y0, y1, y2⟩ := HX2.out.k3
  obtain ⟨u0, u1, u2⟩ := HY2.out.k3
  go_wp2_with fail
  rw [HF.out]
  refine (HCL.out _).mono ?_
  rintro e w3 ⟨rfl, hb⟩
  have HX3 := Lib.hid (HX2.out.below hb)
  have HY3 := Lib.hid (HY2.out.below hb)
  have HZ3 := Lib.hid (HZ2.out.below hb)
  have HB3 := Lib.hid (below_ext2 HB2.out hb)
  clear hb y0 y1 y2 u0 u1 u2 hmn HF HCL HX2 HY2 HZ2 HB2
  go_wp2_with fail
  refine region_invE (n := 58) (S6 12 w w.heap.size (w.heap.size + 1) (w.heap.size + 2) #[.int .i64 2, .int .i64 lo, .int .i64 hi] #[.int .i64 2, .int .i64 0, .string (ofL s)] #[.int .i64 2, .int .i64 0, .string (ofL (F ++ letA q))] (fun i => match i with | 0 => .pointer (some ⟨w.heap.size, 0, none⟩) | 1 => .int .i64 2 | 2 => .string (ofL F) | 3 => .pointer (some ⟨w.heap.size, 1, none⟩) | 4 => .int .i64 lo | 5 => .string (ofL F) | 6 => .int .i64 (f : Int) | 7 => .int .i64 (lo - (f : Int)) | 8 => .int .i64 (q : Int) | 9 => .string (ofL (letA q)) | 10 => .string (ofL (F ++ letA q)) | 11 => vl 2 0 (F ++ letA q) | 12 => undef | _ => .int .i64 0)) (by kernel_rfl) (by kernel_rfl) rfl ?_ (allOps_spec ?_) ?_
  · intro vs
    exact ⟨fun _ h => absurd h (by simp), HZ3.out.below (Below.refl _ _).drew, HX3.out.below (Below.refl _ _).drew, HY3.out.below (Below.refl _ _).drew, HB3.out.drew⟩
  · refine ⟨?_, ?_, ?_, ?_, ?_, ?_, ?_, ?_, ?_, ?_, ?_, ?_, ?_, ?_, trivial⟩
    · intro L vs ac w6 hB hL hd hI
      have b2 : ac.tmps[2]?.getD undef = .pointer (some ⟨w.heap.size, 0, none⟩) := hB.at 2 (by kernel_rfl)
      exact stepI_run (v := .pointer (some ⟨w.heap.size, 0, none⟩)) rfl (by simp [execOp, go_sem, Act.eval, b2]) (hI.word 0 (by decide) (Below.refl _ _))
    · intro L vs ac w6 hB hL hd hI
      have h0 : L 0 = true := hd ⟨0, .data⟩ (by simp) rfl
      have b46 : ac.tmps[46]?.getD undef = .pointer (some ⟨w.heap.size, 0, none⟩) := (hB.val 0 h0 46 rfl).trans (hI.v 0 h0)
      have q0 := hI.x.cell 0
      exact stepI_run (v := .int .i64 2) rfl (by simp [execOp, go_sem, Act.eval, b46, q0]) (hI.word 1 (by decide) (Below.refl _ _))
    · intro L vs ac w6 hB hL hd hI
      have b6 : ac.tmps[6]?.getD undef = .string (ofL F) := hB.at 6 (by kernel_rfl)
      exact stepI_run (v := .string (ofL F)) rfl (by simp [execOp, go_sem, Act.eval, b6]) (hI.word 2 (by decide) (Below.refl _ _))
    · intro L vs ac w6 hB hL hd hI
      have b2 : ac.tmps[2]?.getD undef = .pointer (some ⟨w.heap.size, 0, none⟩) := hB.at 2 (by kernel_rfl)
      exact stepI_run (v := .pointer (some ⟨w.heap.size, 1, none⟩)) rfl (by simp [execOp, go_sem, Act.eval, b2]) (hI.word 3 (by decide) (Below.refl _ _))
    · intro L vs ac w6 hB hL hd hI
      have h3 : L 3 = true := hd ⟨3, .data⟩ (by simp) rfl
      have b49 : ac.tmps[49]?.getD undef = .pointer (some ⟨w.heap.size, 1, none⟩) := (hB.val 3 h3 49 rfl).trans (hI.v 3 h3)
      have q1 := hI.x.cell 1
      exact stepI_run (v := .int .i64 lo) rfl (by simp [execOp, go_sem, Act.eval, b49, q1]) (hI.word 4 (by decide) (Below.refl _ _))
    · intro L vs ac w6 hB hL hd hI
      have b6 : ac.tmps[6]?.getD undef = .string (ofL F) := hB.at 6 (by kernel_rfl)
      exact stepI_run (v := .string (ofL F)) rfl (by simp [execOp, go_sem, Act.eval, b6]) (hI.word 5 (by decide) (Below.refl _ _))
    · intro L vs ac w6 hB hL hd hI
      have h5 : L 5 = true := hd ⟨5, .data⟩ (by simp) rfl
      have b51 : ac.tmps[51]?.getD undef = .string (ofL F) := (hB.val 5 h5 51 rfl).trans (hI.v 5 h5)
      exact stepI_run (v := .int .i64 (f : Int)) rfl (by simp [go_sem, Act.eval, b51, HFZ.out]) (hI.word 6 (by decide) (Below.refl _ _))
    · intro L vs ac w6 hB hL hd hI
      have h4 : L 4 = true := hd ⟨4, .data⟩ (by simp) rfl
      have b50 : ac.tmps[50]?.getD undef = .int .i64 lo := (hB.val 4 h4 50 rfl).trans (hI.v 4 h4)
      have h6 : L 6 = true := hd ⟨6, .data⟩ (by simp) rfl
      have b52 : ac.tmps[52]?.getD undef = .int .i64 (f : Int) := (hB.val 6 h6 52 rfl).trans (hI.v 6 h6)
      exact stepI_run (v := .int .i64 (lo - (f : Int))) rfl (by simp [execOp, go_sem, Act.eval, b50, b52, HW.out]) (hI.word 7 (by decide) (Below.refl _ _))
    · intro L vs ac w6 hB hL hd hI
      have h7 : L 7 = true := hd ⟨7, .data⟩ (by simp) rfl
      have b53 : ac.tmps[53]?.getD undef = .int .i64 (lo - (f : Int)) := (hB.val 7 h7 53 rfl).trans (hI.v 7 h7)
      exact stepI_run (v := .int .i64 (q : Int)) rfl (by simp [go_sem, Act.eval, b53, HMX.out]) (hI.word 8 (by decide) (Below.refl _ _))
    · intro L vs ac w6 hB hL hd hI
      have h8 : L 8 = true := hd ⟨8, .data⟩ (by simp) rfl
      have b54 : ac.tmps[54]?.getD undef = .int .i64 (q : Int) := (hB.val 8 h8 54 rfl).trans (hI.v 8 h8)
      refine stepI_call (f := 51) (args := #[.string ⟨#[97]⟩, .int .i64 (q : Int)]) rfl (by simp [go_sem, b54]) ?_
      refine (HRE.out w6).mono ?_
      rintro e w9 ⟨rfl, hb9⟩
      exact ⟨_, rfl, hI.word 9 (by decide) hb9⟩
    · intro L vs ac w6 hB hL hd hI
      have h2 : L 2 = true := hd ⟨2, .data⟩ (by simp) rfl
      have b48 : ac.tmps[48]?.getD undef = .string (ofL F) := (hB.val 2 h2 48 rfl).trans (hI.v 2 h2)
      have h9 : L 9 = true := hd ⟨9, .data⟩ (by simp) rfl
      have b55 : ac.tmps[55]?.getD undef = .string (ofL (letA q)) := (hB.val 9 h9 55 rfl).trans (hI.v 9 h9)
      have hl := HFQ.out
      exact stepI_run (v := .string (ofL (F ++ letA q))) rfl (by simp [execOp, go_sem, Act.eval, b48, b55, HFZ.out, HQZ.out, HAP.out] <;> omega) (hI.word 10 (by decide) (Below.refl _ _))
    · intro L vs ac w6 hB hL hd hI
      have h1 : L 1 = true := hd ⟨1, .data⟩ (by simp) rfl
      have b47 : ac.tmps[47]?.getD undef = .int .i64 2 := (hB.val 1 h1 47 rfl).trans (hI.v 1 h1)
      have h10 : L 10 = true := hd ⟨10, .data⟩ (by simp) rfl
      have b56 : ac.tmps[56]?.getD undef = .string (ofL (F ++ letA q)) := (hB.val 10 h10 56 rfl).trans (hI.v 10 h10)
      exact stepI_run (v := vl 2 0 (F ++ letA q)) rfl (by simp [execOp, go_sem, Act.eval, b47, b56, vl]) (hI.word 11 (by decide) (Below.refl _ _))
    · intro L vs ac w6 hB hL hd hI
      have b4 : ac.tmps[4]?.getD undef = .pointer (some ⟨w.heap.size + 2, 0, none⟩) := hB.at 4 (by kernel_rfl)
      have h11 : L 11 = true := hd ⟨11, .data⟩ (by simp) rfl
      have b57 : ac.tmps[57]?.getD undef = vl 2 0 (F ++ letA q) := (hB.val 11 h11 57 rfl).trans (hI.v 11 h11)
      have hx := hI.z
      rw [hL, if_neg Bool.false_ne_true] at hx
      exact stepI_store_row rfl 25 4 57 rfl (w.heap.size + 2) _ b4 b57 _ hx info_val rfl (by simp [Value.oneCell']) (hI.put (by omega) (by omega) (by omega) rfl)
    · intro L vs ac w6 hB hL hd hI
      exact stepI_run (v := .int .i64 0) rfl (by simp [execOp, go_sem, Act.eval]) (hI.word 13 (by decide) (Below.refl _ _))
  · intro L vs w7a hall hI
    have e7 : vs 13 = .int .i64 0 := hI.v 13 (hall 13 (by decide))
    have hx := hI.z
    rw [hall 12 (by decide), if_pos rfl] at hx
    have HZE := Lib.hid hx
    have HBE := Lib.hid hI.b
    clear hall hx hI
    simp only [putAll, Act.put, List.setIfInBounds_toArray, List.set_cons_zero, List.set_cons_succ, Nat.zero_add, Nat.reduceAdd, e7]
    clear e7
    go_wp2_with fail
    refine bodyPost_ret (bx_ret2 HZE.out rfl _ rfl Tryz.underlying25 rfl info_val) rfl ?_
    exact ⟨rfl, HBE.out⟩
set_option maxHeartbeats 1600000 in
theorem rclamp_long (lo hi : Int) (s : Bs) (w : World) (h : soB 2 lo hi = true) (hv : vlB 2 0 s = true) (h0 : 0 ≤ lo) (h1 : lo ≤ hi) (h2 : hi ≤ 40) (hs : s.length ≤ 40) (hlh : hi < (s.length : Int)) : Calls Tryz.prog 26 #[so 2 lo hi, vl 2 0 s] w (Tells w (.tuple #[vl 2 0 (clT lo hi s), .int .i64 0])) := by
  have hz := ofL_size s
  have d1 : decide (hi < (((ofL s).size : Nat) : Int)) = true := decide_eq_true (by omega)
  have hbd : 0 ≤ hi ∧ hi ≤ (((ofL s).size : Nat) : Int) := by omega
  have HF := Lib.hid (show (ofL s).extract 0 hi.toNat = ofL (s.take hi.toNat) by rw [ofL_extract]; rfl)
  have HT := Lib.hid (show clT lo hi s = s.take hi.toNat by
    have e : (min (s.length : Int) hi).toNat = hi.toNat := by omega
    unfold clT
    rw [e, List.length_take, show (lo - ((min hi.toNat s.length : Nat) : Int)).toNat = 0 by omega]
    simp [letA])
  rw [HT.out]
  clear h0 h1 h2 hs hlh HT hz
  have HVA := Lib.hid (fun W => rvalid_any 2 0 s W)
  rw [hv] at HVA
  clear hv
  unfold vl at HVA
  obtain ⟨V, hV⟩ : ∃ V, V = ((w.alloc (.cells #[.int .i64 2, .int .i64 lo, .int .i64 hi] 23)).alloc (.cells #[.int .i64 2, .int .i64 0, .string (ofL s)] 25)).alloc (.cells #[.int .i64 0, .int .i64 0, .string ⟨#[]⟩] 25) := ⟨_, rfl⟩
  have hb2 := al3 w (.cells #[.int .i64 2, .int .i64 lo, .int .i64 hi] 23) (.cells #[.int .i64 2, .int .i64 0, .string (ofL s)] 25) (.cells #[.int .i64 0, .int .i64 0, .string ⟨#[]⟩] 25)
  have hx := heap_3a w (.cells #[.int .i64 2, .int .i64 lo, .int .i64 hi] 23) (.cells #[.int .i64 2, .int .i64 0, .string (ofL s)] 25) (.cells #[.int .i64 0, .int .i64 0, .string ⟨#[]⟩] 25)
  have hv := heap_3b w (.cells #[.int .i64 2, .int .i64 lo, .int .i64 hi] 23) (.cells #[.int .i64 2, .int .i64 0, .string (ofL s)] 25) (.cells #[.int .i64 0, .int .i64 0, .string ⟨#[]⟩] 25)
  have hy := heap_3c w (.cells #[.int .i64 2, .int .i64 lo, .int .i64 hi] 23) (.cells #[.int .i64 2, .int .i64 0, .string (ofL s)] 25) (.cells #[.int .i64 0, .int .i64 0, .string ⟨#[]⟩] 25)
  rw [← hV] at hb2 hx hy hv
  have HC := Lib.hid (rso_walk 2 lo hi V)
  rw [h] at HC
  have HX := Lib.hid (show Bx V w.heap.size 23 #[.int .i64 2, .int .i64 lo, .int .i64 hi] from hx)
  have HY := Lib.hid (show Bx V (w.heap.size + 1) 25 #[.int .i64 2, .int .i64 0, .string (ofL s)] from hv)
  have HZ := Lib.hid (show Bx V (w.heap.size + 2) 25 #[.int .i64 0, .int .i64 0, .string ⟨#[]⟩] from hy)
  have HB := Lib.hid hb2
  have HV := Lib.hid hV
  have x0 := HX.out.cell 0
  have x1 := HX.out.cell 1
  have x2 := HX.out.cell 2
  rw [hV] at x0 x1 x2
  clear h hb2 hx hy hV hv
  unfold so at HC ⊢
  unfold vl
  go_enter Tryz.func26, Tryz.ntmps26
  go_wp2_with fail
  rw [← HV.out]
  refine HC.out.mono ?_
  rintro e w1 ⟨rfl, hb⟩
  have HX1 := Lib.hid (HX.out.below hb)
  have HY1 := Lib.hid (HY.out.below hb)
  have HZ1 := Lib.hid (HZ.out.below hb)
  have HB1 := Lib.hid (below_ext2 HB.out hb)
  clear x0 x1 x2 hb HC HV HX HY HZ HB
  obtain ⟨x0, x1, x2⟩ := HY1.out.k3
  go_wp2_with fail
  refine (HVA.out _).mono ?_
  rintro e w2 ⟨rfl, hb⟩
  have HX2 := Lib.hid (HX1.out.below hb)
  have HY2 := Lib.hid (HY1.out.below hb)
  have HZ2 := Lib.hid (HZ1.out.below hb)
  have HB2 := Lib.hid (below_ext2 HB1.out hb)
  clear x0 x1 x2 hb HX1 HY1 HZ1 HB1 HVA
  obtain ⟨y0, y1, y2⟩ := HX2.out.k3
  obtain ⟨u0, u1, u2⟩ := HY2.out.k3
  go_wp2_with fail
  rw [HF.out]
  refine (rtext_any _ _).mono ?_
  rintro e w3 ⟨rfl, hb⟩
  have HZ3 := Lib.hid (HZ2.out.below hb)
  have HB3 := Lib.hid (below_ext2 HB2.out hb)
  clear hb y0 y1 y2 u0 u1 u2 d1 hbd
  unfold vl
  have hz2 := HZ3.out
  have k0 := hz2.cell 0
  have k1 := hz2.cell 1
  have k2 := hz2.cell 2
  have z0 := hz2.free 0
  have z1 := hz2.free 1
  have z2 := hz2.free 2
  have HZE := Lib.hid (z3 (v0 := .int .i64 2) (v1 := .int .i64 0) (v2 := .string (ofL (s.take hi.toNat))) hz2)
  have HBE := Lib.hid (((HB3.out.setCell (p := ⟨w.heap.size + 2, 0, none⟩) (by show w.heap.size ≤ w.heap.size + 2; omega) (.int .i64 2)).setCell (p := ⟨w.heap.size + 2, 1, none⟩) (by show w.heap.size ≤ w.heap.size + 2; omega) (.int .i64 0)).setCell (p := ⟨w.heap.size + 2, 2, none⟩) (by show w.heap.size ≤ w.heap.size + 2; omega) (.string (ofL (s.take hi.toNat))))
  clear hz2
  go_wp2_with fail
  refine bodyPost_ret (bx_ret2 HZE.out rfl _ rfl Tryz.underlying25 rfl info_val) rfl ?_
  exact ⟨rfl, HBE.out⟩
set_option maxRecDepth 100000 in
set_option maxHeartbeats 3200000 in
theorem rclamp_short (lo hi : Int) (s : Bs) (w : World) (h : soB 2 lo hi = true) (hv : vlB 2 0 s = true) (h0 : 0 ≤ lo) (h1 : lo ≤ hi) (h2 : hi ≤ 40) (hs : s.length ≤ 40) (hlh : ¬ hi < (s.length : Int)) : Calls Tryz.prog 26 #[so 2 lo hi, vl 2 0 s] w (Tells w (.tuple #[vl 2 0 (clT lo hi s), .int .i64 0])) := by
  obtain ⟨f, hf⟩ : ∃ f, f = s.length := ⟨_, rfl⟩
  obtain ⟨q, hq⟩ : ∃ q, q = (lo - (f : Int)).toNat := ⟨_, rfl⟩
  have hfz : (ofL s).size = f := by rw [ofL_size, hf]
  have d1 : decide (hi < (((ofL s).size : Nat) : Int)) = false := decide_eq_false (by omega)
  have HT := Lib.hid (show clT lo hi s = s ++ letA q by
    have e : (min (s.length : Int) hi).toNat = s.length := by omega
    unfold clT
    rw [e, List.take_length, hq, hf])
  have HW := Lib.hid (show IntKind.i64.wrap (lo - (f : Int)) = lo - (f : Int) by rw [IntKind.wrap_i64]; omega)
  have HFZ := Lib.hid hfz
  have HAP := Lib.hid (ofL_app s (letA q))
  have HQZ := Lib.hid (show (ofL (letA q)).size = q by rw [ofL_size, letA_len])
  have HLE := Lib.hid (show ∀ W, Calls Tryz.prog 52 #[.int .i64 (lo - (f : Int))] W (Tells W (.string (ofL (letA q)))) from fun W => by rw [hq]; exact letters_any _ W (by omega))
  have HFQ := Lib.hid (show f ≤ 40 ∧ q ≤ 40 by omega)
  rw [HT.out]
  clear h0 h1 h2 hs hf hq hfz hlh HT
  have HVA := Lib.hid (fun W => rvalid_any 2 0 s W)
  rw [hv] at HVA
  clear hv
  unfold vl at HVA
  obtain ⟨V, hV⟩ : ∃ V, V = ((w.alloc (.cells #[.int .i64 2, .int .i64 lo, .int .i64 hi] 23)).alloc (.cells #[.int .i64 2, .int .i64 0, .string (ofL s)] 25)).alloc (.cells #[.int .i64 0, .int .i64 0, .string ⟨#[]⟩] 25) := ⟨_, rfl⟩
  have hb2 := al3 w (.cells #[.int .i64 2, .int .i64 lo, .int .i64 hi] 23) (.cells #[.int .i64 2, .int .i64 0, .string (ofL s)] 25) (.cells #[.int .i64 0, .int .i64 0, .string ⟨#[]⟩] 25)
  have hx := heap_3a w (.cells #[.int .i64 2, .int .i64 lo, .int .i64 hi] 23) (.cells #[.int .i64 2, .int .i64 0, .string (ofL s)] 25) (.cells #[.int .i64 0, .int .i64 0, .string ⟨#[]⟩] 25)
  have hv := heap_3b w (.cells #[.int .i64 2, .int .i64 lo, .int .i64 hi] 23) (.cells #[.int .i64 2, .int .i64 0, .string (ofL s)] 25) (.cells #[.int .i64 0, .int .i64 0, .string ⟨#[]⟩] 25)
  have hy := heap_3c w (.cells #[.int .i64 2, .int .i64 lo, .int .i64 hi] 23) (.cells #[.int .i64 2, .int .i64 0, .string (ofL s)] 25) (.cells #[.int .i64 0, .int .i64 0, .string ⟨#[]⟩] 25)
  rw [← hV] at hb2 hx hy hv
  have HC := Lib.hid (rso_walk 2 lo hi V)
  rw [h] at HC
  have HX := Lib.hid (show Bx V w.heap.size 23 #[.int .i64 2, .int .i64 lo, .int .i64 hi] from hx)
  have HY := Lib.hid (show Bx V (w.heap.size + 1) 25 #[.int .i64 2, .int .i64 0, .string (ofL s)] from hv)
  have HZ := Lib.hid (show Bx V (w.heap.size + 2) 25 #[.int .i64 0, .int .i64 0, .string ⟨#[]⟩] from hy)
  have HB := Lib.hid hb2
  have HV := Lib.hid hV
  have x0 := HX.out.cell 0
  have x1 := HX.out.cell 1
  have x2 := HX.out.cell 2
  rw [hV] at x0 x1 x2
  clear h hb2 hx hy hV hv
  unfold so at HC ⊢
  unfold vl
  go_enter Tryz.func26, Tryz.ntmps26
  go_wp2_with fail
  rw [← HV.out]
  refine HC.out.mono ?_
  rintro e w1 ⟨rfl, hb⟩
  have HX1 := Lib.hid (HX.out.below hb)
  have HY1 := Lib.hid (HY.out.below hb)
  have HZ1 := Lib.hid (HZ.out.below hb)
  have HB1 := Lib.hid (below_ext2 HB.out hb)
  clear x0 x1 x2 hb HC HV HX HY HZ HB
  obtain ⟨x0, x1, x2⟩ := HY1.out.k3
  go_wp2_with fail
  refine (HVA.out _).mono ?_
  rintro e w2 ⟨rfl, hb⟩
  have HX2 := Lib.hid (HX1.out.below hb)
  have HY2 := Lib.hid (HY1.out.below hb)
  have HZ2 := Lib.hid (HZ1.out.below hb)
  have HB2 := Lib.hid (below_ext2 HB1.out hb)
  clear x0 x1 x2 hb HX1 HY1 HZ1 HB1 HVA
  obtain ⟨y0, y1, y2⟩ := HX2.out.k3
  obtain ⟨u0, u1, u2⟩ := HY2.out.k3
  go_wp2_with fail
  have HX3 := HX2
  have HY3 := HY2
  have HZ3 := HZ2
  have HB3 := HB2
  clear y0 y1 y2 u0 u1 u2 HX2 HY2 HZ2 HB2 d1
  refine region_invE (n := 60) (S6 11 w w.heap.size (w.heap.size + 1) (w.heap.size + 2) #[.int .i64 2, .int .i64 lo, .int .i64 hi] #[.int .i64 2, .int .i64 0, .string (ofL s)] #[.int .i64 2, .int .i64 0, .string (ofL (s ++ letA q))] (fun i => match i with | 0 => .pointer (some ⟨w.heap.size + 1, 2, none⟩) | 1 => .string (ofL s) | 2 => .pointer (some ⟨w.heap.size, 1, none⟩) | 3 => .int .i64 lo | 4 => .pointer (some ⟨w.heap.size + 1, 2, none⟩) | 5 => .string (ofL s) | 6 => .int .i64 (f : Int) | 7 => .int .i64 (lo - (f : Int)) | 8 => .string (ofL (letA q)) | 9 => .string (ofL (s ++ letA q)) | 10 => vl 2 0 (s ++ letA q) | 11 => undef | _ => .int .i64 0)) (by kernel_rfl) (by kernel_rfl) rfl ?_ (allOps_spec ?_) ?_
  · intro vs
    exact ⟨fun _ h => absurd h (by simp), HZ3.out.below (Below.refl _ _).drew, HX3.out.below (Below.refl _ _).drew, HY3.out.below (Below.refl _ _).drew, HB3.out.drew⟩
  · refine ⟨?_, ?_, ?_, ?_, ?_, ?_, ?_, ?_, ?_, ?_, ?_, ?_, ?_, trivial⟩
    · intro L vs ac w6 hB hL hd hI
      have b3 : ac.tmps[3]?.getD undef = .pointer (some ⟨w.heap.size + 1, 0, none⟩) := hB.at 3 (by kernel_rfl)
      exact stepI_run (v := .pointer (some ⟨w.heap.size + 1, 2, none⟩)) rfl (by simp [execOp, go_sem, Act.eval, b3]) (hI.word 0 (by decide) (Below.refl _ _))
    · intro L vs ac w6 hB hL hd hI
      have h0 : L 0 = true := hd ⟨0, .data⟩ (by simp) rfl
      have b49 : ac.tmps[49]?.getD undef = .pointer (some ⟨w.heap.size + 1, 2, none⟩) := (hB.val 0 h0 49 rfl).trans (hI.v 0 h0)
      have q2 := hI.y.cell 2
      exact stepI_run (v := .string (ofL s)) rfl (by simp [execOp, go_sem, Act.eval, b49, q2]) (hI.word 1 (by decide) (Below.refl _ _))
    · intro L vs ac w6 hB hL hd hI
      have b2 : ac.tmps[2]?.getD undef = .pointer (some ⟨w.heap.size, 0, none⟩) := hB.at 2 (by kernel_rfl)
      exact stepI_run (v := .pointer (some ⟨w.heap.size, 1, none⟩)) rfl (by simp [execOp, go_sem, Act.eval, b2]) (hI.word 2 (by decide) (Below.refl _ _))
    · intro L vs ac w6 hB hL hd hI
      have h2 : L 2 = true := hd ⟨2, .data⟩ (by simp) rfl
      have b51 : ac.tmps[51]?.getD undef = .pointer (some ⟨w.heap.size, 1, none⟩) := (hB.val 2 h2 51 rfl).trans (hI.v 2 h2)
      have q1 := hI.x.cell 1
      exact stepI_run (v := .int .i64 lo) rfl (by simp [execOp, go_sem, Act.eval, b51, q1]) (hI.word 3 (by decide) (Below.refl _ _))
    · intro L vs ac w6 hB hL hd hI
      have b3 : ac.tmps[3]?.getD undef = .pointer (some ⟨w.heap.size + 1, 0, none⟩) := hB.at 3 (by kernel_rfl)
      exact stepI_run (v := .pointer (some ⟨w.heap.size + 1, 2, none⟩)) rfl (by simp [execOp, go_sem, Act.eval, b3]) (hI.word 4 (by decide) (Below.refl _ _))
    · intro L vs ac w6 hB hL hd hI
      have h4 : L 4 = true := hd ⟨4, .data⟩ (by simp) rfl
      have b53 : ac.tmps[53]?.getD undef = .pointer (some ⟨w.heap.size + 1, 2, none⟩) := (hB.val 4 h4 53 rfl).trans (hI.v 4 h4)
      have q2 := hI.y.cell 2
      exact stepI_run (v := .string (ofL s)) rfl (by simp [execOp, go_sem, Act.eval, b53, q2]) (hI.word 5 (by decide) (Below.refl _ _))
    · intro L vs ac w6 hB hL hd hI
      have h5 : L 5 = true := hd ⟨5, .data⟩ (by simp) rfl
      have b54 : ac.tmps[54]?.getD undef = .string (ofL s) := (hB.val 5 h5 54 rfl).trans (hI.v 5 h5)
      exact stepI_run (v := .int .i64 (f : Int)) rfl (by simp [go_sem, Act.eval, b54, HFZ.out]) (hI.word 6 (by decide) (Below.refl _ _))
    · intro L vs ac w6 hB hL hd hI
      have h3 : L 3 = true := hd ⟨3, .data⟩ (by simp) rfl
      have b52 : ac.tmps[52]?.getD undef = .int .i64 lo := (hB.val 3 h3 52 rfl).trans (hI.v 3 h3)
      have h6 : L 6 = true := hd ⟨6, .data⟩ (by simp) rfl
      have b55 : ac.tmps[55]?.getD undef = .int .i64 (f : Int) := (hB.val 6 h6 55 rfl).trans (hI.v 6 h6)
      exact stepI_run (v := .int .i64 (lo - (f : Int))) rfl (by simp [execOp, go_sem, Act.eval, b52, b55, HW.out]) (hI.word 7 (by decide) (Below.refl _ _))
    · intro L vs ac w6 hB hL hd hI
      have h7 : L 7 = true := hd ⟨7, .data⟩ (by simp) rfl
      have b56 : ac.tmps[56]?.getD undef = .int .i64 (lo - (f : Int)) := (hB.val 7 h7 56 rfl).trans (hI.v 7 h7)
      refine stepI_call (f := 52) (args := #[.int .i64 (lo - (f : Int))]) rfl (by simp [go_sem, b56]) ?_
      refine (HLE.out w6).mono ?_
      rintro e w9 ⟨rfl, hb9⟩
      exact ⟨_, rfl, hI.word 8 (by decide) hb9⟩
    · intro L vs ac w6 hB hL hd hI
      have h1 : L 1 = true := hd ⟨1, .data⟩ (by simp) rfl
      have b50 : ac.tmps[50]?.getD undef = .string (ofL s) := (hB.val 1 h1 50 rfl).trans (hI.v 1 h1)
      have h8 : L 8 = true := hd ⟨8, .data⟩ (by simp) rfl
      have b57 : ac.tmps[57]?.getD undef = .string (ofL (letA q)) := (hB.val 8 h8 57 rfl).trans (hI.v 8 h8)
      have hl := HFQ.out
      exact stepI_run (v := .string (ofL (s ++ letA q))) rfl (by simp [execOp, go_sem, Act.eval, b50, b57, HFZ.out, HQZ.out, HAP.out] <;> omega) (hI.word 9 (by decide) (Below.refl _ _))
    · intro L vs ac w6 hB hL hd hI
      have h9 : L 9 = true := hd ⟨9, .data⟩ (by simp) rfl
      have b58 : ac.tmps[58]?.getD undef = .string (ofL (s ++ letA q)) := (hB.val 9 h9 58 rfl).trans (hI.v 9 h9)
      refine stepI_call (f := 43) (args := #[.string (ofL (s ++ letA q))]) rfl (by simp [go_sem, b58]) ?_
      refine (rtext_any _ w6).mono ?_
      rintro e w9 ⟨rfl, hb9⟩
      exact ⟨_, rfl, hI.word 10 (by decide) hb9⟩
    · intro L vs ac w6 hB hL hd hI
      have b4 : ac.tmps[4]?.getD undef = .pointer (some ⟨w.heap.size + 2, 0, none⟩) := hB.at 4 (by kernel_rfl)
      have h10 : L 10 = true := hd ⟨10, .data⟩ (by simp) rfl
      have b59 : ac.tmps[59]?.getD undef = vl 2 0 (s ++ letA q) := (hB.val 10 h10 59 rfl).trans (hI.v 10 h10)
      have hx := hI.z
      rw [hL, if_neg Bool.false_ne_true] at hx
      exact stepI_store_row rfl 25 4 59 rfl (w.heap.size + 2) _ b4 b59 _ hx info_val rfl (by simp [Value.oneCell']) (hI.put (by omega) (by omega) (by omega) rfl)
    · intro L vs ac w6 hB hL hd hI
      exact stepI_run (v := .int .i64 0) rfl (by simp [execOp, go_sem, Act.eval]) (hI.word 12 (by decide) (Below.refl _ _))
  · intro L vs w7a hall hI
    have e7 : vs 12 = .int .i64 0 := hI.v 12 (hall 12 (by decide))
    have hx := hI.z
    rw [hall 11 (by decide), if_pos rfl] at hx
    have HZE := Lib.hid hx
    have HBE := Lib.hid hI.b
    clear hall hx hI
    simp only [putAll, Act.put, List.setIfInBounds_toArray, List.set_cons_zero, List.set_cons_succ, Nat.zero_add, Nat.reduceAdd, e7]
    clear e7
    go_wp2_with fail
    refine bodyPost_ret (bx_ret2 HZE.out rfl _ rfl Tryz.underlying25 rfl info_val) rfl ?_
    exact ⟨rfl, HBE.out⟩
/-- What Clamp says: kind, integer, text, error. -/
def clR (k lo hi kv n : Int) (s : Bs) : (Int × Int × Bs) × Int :=
  if soB k lo hi = true ∧ vlB kv n s = true then (if k = kv then (if k = 1 then ((1, min (max n lo) hi, []), 0) else ((2, 0, clT lo hi s), 0)) else ((0, 0, []), 11)) else ((0, 0, []), 1)
theorem vl_one {n : Int} {s : Bs} (h : vlB 1 n s = true) : s = [] ∧ inB n = true := by
  unfold vlB at h
  rw [if_pos rfl, Bool.and_eq_true, decide_eq_true_iff] at h
  exact h
theorem vl_two {n : Int} {s : Bs} (h : vlB 2 n s = true) : n = 0 ∧ s.length ≤ 40 ∧ prB s = true := by
  unfold vlB at h
  rw [if_neg (by decide), if_pos rfl, Bool.and_eq_true, Bool.and_eq_true, decide_eq_true_iff, decide_eq_true_iff] at h
  exact ⟨h.1.1, h.1.2, h.2⟩
theorem clamp_any (k lo hi kv n : Int) (s : Bs) (w : World) : Calls Tryz.prog 25 #[so k lo hi, vl kv n s] w (Tells w (.tuple #[vl (clR k lo hi kv n s).1.1 (clR k lo hi kv n s).1.2.1 (clR k lo hi kv n s).1.2.2, .int .i64 (clR k lo hi kv n s).2])) := by
  by_cases h : soB k lo hi = true
  · by_cases hv : vlB kv n s = true
    · by_cases hk : k = kv
      · subst hk
        by_cases h1 : k = 1
        · subst h1
          obtain ⟨rfl, hn⟩ := vl_one hv
          have e : clR 1 lo hi 1 n [] = ((1, min (max n lo) hi, []), 0) := by unfold clR; rw [if_pos ⟨h, hv⟩, if_pos rfl, if_pos rfl]
          rw [e]
          exact clamp_int lo hi n w h hn
        · obtain ⟨rfl, h2, h3, h4⟩ := so_kind h h1
          obtain ⟨rfl, h5, -⟩ := vl_two hv
          have e : clR 2 lo hi 2 0 s = ((2, 0, clT lo hi s), 0) := by unfold clR; rw [if_pos ⟨h, hv⟩, if_pos rfl, if_neg h1]
          rw [e]
          exact clamp_text lo hi s w h hv h2 h3 h4 h5
      · have e : clR k lo hi kv n s = ((0, 0, []), 11) := by unfold clR; rw [if_pos ⟨h, hv⟩, if_neg hk]
        rw [e]
        exact clamp_no3 k lo hi kv n s w h hv hk
    · have e : clR k lo hi kv n s = ((0, 0, []), 1) := by unfold clR; rw [if_neg (fun x => hv x.2)]
      rw [e]
      exact clamp_no2 k lo hi kv n s w h (by simpa using hv)
  · have e : clR k lo hi kv n s = ((0, 0, []), 1) := by unfold clR; rw [if_neg (fun x => h x.1)]
    rw [e]
    exact clamp_no1 k lo hi kv n s w (by simpa using h)
theorem rclamp_any (k lo hi kv n : Int) (s : Bs) (w : World) : Calls Tryz.prog 26 #[so k lo hi, vl kv n s] w (Tells w (.tuple #[vl (clR k lo hi kv n s).1.1 (clR k lo hi kv n s).1.2.1 (clR k lo hi kv n s).1.2.2, .int .i64 (clR k lo hi kv n s).2])) := by
  by_cases h : soB k lo hi = true
  · by_cases hv : vlB kv n s = true
    · by_cases hk : k = kv
      · subst hk
        by_cases h1 : k = 1
        · subst h1
          obtain ⟨rfl, hn⟩ := vl_one hv
          have e : clR 1 lo hi 1 n [] = ((1, min (max n lo) hi, []), 0) := by unfold clR; rw [if_pos ⟨h, hv⟩, if_pos rfl, if_pos rfl]
          rw [e]
          exact rclamp_int lo hi n w h hv
        · obtain ⟨rfl, h2, h3, h4⟩ := so_kind h h1
          obtain ⟨rfl, h5, -⟩ := vl_two hv
          have e : clR 2 lo hi 2 0 s = ((2, 0, clT lo hi s), 0) := by unfold clR; rw [if_pos ⟨h, hv⟩, if_pos rfl, if_neg h1]
          rw [e]
          by_cases h6 : hi < (s.length : Int)
          · exact rclamp_long lo hi s w h hv h2 h3 h4 h5 h6
          · exact rclamp_short lo hi s w h hv h2 h3 h4 h5 h6
      · have e : clR k lo hi kv n s = ((0, 0, []), 11) := by unfold clR; rw [if_pos ⟨h, hv⟩, if_neg hk]
        rw [e]
        exact rclamp_no3 k lo hi kv n s w h hv hk
    · have e : clR k lo hi kv n s = ((0, 0, []), 1) := by unfold clR; rw [if_neg (fun x => hv x.2)]
      rw [e]
      exact rclamp_no2 k lo hi kv n s w h (by simpa using hv)
  · have e : clR k lo hi kv n s = ((0, 0, []), 1) := by unfold clR; rw [if_neg (fun x => h x.1)]
    rw [e]
    exact rclamp_no1 k lo hi kv n s w (by simpa using h)
end Go.Proofs.YtnainhpcmoekcaaGreatDoor
