/- ValueMonotone: for every input the law returns true (tools/gen_vmo.py). -/
import Derived.Test.YtnainhpcmoekcaaGreatDoorVaJ
import Derived.Test.YtnainhpcmoekcaaGreatDoorLaw
namespace Go.Proofs.YtnainhpcmoekcaaGreatDoor
open Go.RowKit

/-- 'x, e := value.Clamp(s, ref.Int(a))' in any order. -/
structure C3 (W : World) (cs : Array Value) (val : Nat → Value) (L : Nat → Bool) (vs : Nat → Value) (w : World) : Prop where
 v : ∀ i, i ≠ 7 → L i = true → vs i = val i
 n : L 7 = true → ∃ nb, vs 7 = .pointer (some ⟨nb, 0, none⟩) ∧ W.heap.size ≤ nb ∧ Bx w nb 25 (if L 8 = true then cs else #[.int .i64 0, .int .i64 0, .string ⟨#[]⟩])
 b : Below W.heap.size W w
section
variable {W w w' : World} {cs : Array Value} {val : Nat → Value} {L : Nat → Bool} {vs : Nat → Value}
theorem C3.start : C3 W cs val (fun _ => false) vs W.drew := ⟨fun _ _ h => absurd h (by simp), fun h => absurd h (by simp), (Below.refl _ W).drew⟩
theorem C3.word (h : C3 W cs val L vs w) (i : Nat) (h6 : 7 ≠ i) (h7 : 8 ≠ i) (hb : Below w.heap.size w w') : C3 W cs val (updB L i) (updV vs i (val i)) w' := by
 refine ⟨fun j hj hl => ?_, fun hl => ?_, h.b.trans (hb.mono h.b.size)⟩
 ·by_cases e : j = i
  ·subst e; rw [updV_self]
  ·rw [updV_ne _ _ e]; exact h.v j hj (by rwa [updB_ne L e] at hl)
 ·rw [updB_ne L h6] at hl
  obtain ⟨nb, h1, h2, h3⟩ := h.n hl
  rw [updV_ne _ _ h6, updB_ne L h7]
  exact ⟨nb, h1, h2, h3.below hb⟩
theorem C3.made (h : C3 W cs val L vs w) (h7 : L 8 = false) : C3 W cs val (updB L 7) (updV vs 7 (.pointer (some ⟨w.heap.size, 0, none⟩))) (w.alloc (.cells #[.int .i64 0, .int .i64 0, .string ⟨#[]⟩] 25)) := by
 refine ⟨fun j hj hl => ?_, fun _ => ?_, h.b.trans ((al1 w _).mono h.b.size)⟩
 ·rw [updV_ne _ _ hj]; exact h.v j hj (by rwa [updB_ne L hj] at hl)
 ·rw [updV_self, updB_ne L (by decide), h7]
  exact ⟨w.heap.size, rfl, h.b.size, heap_alloc_new w _⟩
theorem C3.put (h : C3 W cs val L vs w) (h6 : L 7 = true) {nb : Nat} (hv : vs 7 = .pointer (some ⟨nb, 0, none⟩)) (hu : val 8 = undef) : C3 W cs val (updB L 8) (updV vs 8 undef) (w.setRow nb cs) := by
 obtain ⟨nb', h1, h2, h3⟩ := h.n h6
 rw [hv] at h1
 obtain rfl : nb = nb' := by simpa using h1
 refine ⟨fun j hj hl => ?_, fun _ => ?_, below_setRow h.b h2 _⟩
 ·by_cases e : j = 8
  ·subst e; rw [updV_self, hu]
  ·rw [updV_ne _ _ e]; exact h.v j hj (by rwa [updB_ne L e] at hl)
 ·rw [updV_ne _ _ (by decide), updB_self, if_pos rfl]
  exact ⟨nb, hv, h2, h3.row⟩
end
theorem mono_facts {lo hi a b k1 n1 k2 n2 : Int} (h1 : ((k1, n1), (0 : Int)) = clI lo hi a) (h2 : ((k2, n2), (0 : Int)) = clI lo hi b) : lo ≤ hi ∧ True ∧ n1 = min (max a lo) hi ∧ True ∧ n2 = min (max b lo) hi := by
 unfold clI at h1 h2
 have hs : soB 1 lo hi = true := by
  cases h : soB 1 lo hi with
  | true => rfl
  | false => rw [h] at h1; simp at h1
 have hs2 : lo ≤ hi := by
  unfold soB at hs
  rw [if_pos rfl, decide_eq_true_iff] at hs
  exact hs.2.1
 split at h1
 ·split at h2
  ·simp only [Prod.mk.injEq] at h1 h2
   exact ⟨hs2, trivial, h1.1.2, trivial, h2.1.2⟩
  ·simp at h2
 ·simp at h1
set_option maxRecDepth 100000 in
set_option maxHeartbeats 4000000 in
theorem valuemonotone_walk (K lo hi a b : Int) (w : World) : Calls Tryz.prog 7 #[so K lo hi, .int .i64 a, .int .i64 b] w (Tells w (.bool true)) := by
 have hba := al1 w (.cells #[.int .i64 K, .int .i64 lo, .int .i64 hi] 23)
 have HS1 := Lib.hid (Bx.new w 23 #[.int .i64 K, .int .i64 lo, .int .i64 hi])
 have HB1 := Lib.hid hba
 have HAW := Lib.hid (awake_any (w.alloc (.cells #[.int .i64 K, .int .i64 lo, .int .i64 hi] 23)))
 clear hba
 unfold so
 go_enter Tryz.func7, Tryz.ntmps7
 go_wp2_with fail
 refine HAW.out.mono ?_
 rintro e w1 ⟨rfl, hb⟩
 have HS2 := Lib.hid (HS1.out.below hb)
 have HB2 := Lib.hid (below_ext2 HB1.out hb)
 have k0 := HS2.out.cell 0
 have z0 := HS2.out.free 0
 obtain ⟨sb, hsb⟩ : ∃ sb, sb = w.heap.size := ⟨_, rfl⟩
 rw [← hsb] at HS2 k0 z0 ⊢
 have HSW := Lib.hid (show w.heap.size ≤ sb by omega)
 clear hsb hb HAW HS1 HB1
 go_wp2_with fail
 have HS3 := Lib.hid (show Bx (w1.setCell ⟨sb, 0, none⟩ (.int .i64 1)) sb 23 #[.int .i64 1, .int .i64 lo, .int .i64 hi] from HS2.out.set 0 (.int .i64 1))
 have HB3 := Lib.hid (HB2.out.setCell (p := ⟨sb, 0, none⟩) HSW.out (.int .i64 1))
 obtain ⟨W, hW⟩ : ∃ W, W = w1.setCell ⟨sb, 0, none⟩ (.int .i64 1) := ⟨_, rfl⟩
 rw [← hW] at HS3 HB3 ⊢
 clear hW HS2 HB2 k0 z0
 obtain ⟨⟨⟨k1, n1⟩, e1⟩, hr1⟩ : ∃ r, r = clI lo hi a := ⟨_, rfl⟩
 obtain ⟨⟨⟨k2, n2⟩, e2⟩, hr2⟩ : ∃ r, r = clI lo hi b := ⟨_, rfl⟩
 have HC1 := Lib.hid (fun W => clampi_any lo hi a W)
 have HC2 := Lib.hid (fun W => clampi_any lo hi b W)
 rw [← hr1] at HC1
 rw [← hr2] at HC2
 dsimp only at HC1 HC2
 have HR1 := Lib.hid hr1
 have HR2 := Lib.hid hr2
 clear hr1 hr2
 refine region_invE (n := 78) (C3 W #[.int .i64 k1, .int .i64 n1, .string (ofL [])] (fun i => match i with | 0 => so 1 lo hi | 1 => .int .i64 a | 2 => vl 1 a [] | 3 => .tuple #[vl k1 n1 [], .int .i64 e1] | 4 => .tuple #[vl k1 n1 [], .int .i64 e1] | 5 => vl k1 n1 [] | 6 => .int .i64 e1 | 8 => undef | _ => .int .i64 e1)) (by kernel_rfl) (by kernel_rfl) rfl ?_ (allOps_spec ?_) ?_
 ·intro vs
  exact C3.start
 ·refine ⟨?_, ?_, ?_, ?_, ?_, ?_, ?_, ?_, ?_, ?_, trivial⟩
  ·intro L vs ac w6 hB hL hd hI
   have b3 : ac.tmps[3]?.getD undef = .pointer (some ⟨sb, 0, none⟩) := hB.at 3 (by kernel_rfl)
   have k0 := (HS3.out.below hI.b).cell 0
   have k1 := (HS3.out.below hI.b).cell 1
   have k2 := (HS3.out.below hI.b).cell 2
   exact stepI_run (v := so 1 lo hi) rfl (by simp [execOp, go_sem, Act.eval, b3, k0, k1, k2, so]) (hI.word 0 (by decide) (by decide) (Below.refl _ _))
  ·intro L vs ac w6 hB hL hd hI
   have b1 : ac.tmps[1]?.getD undef = .int .i64 a := hB.at 1 (by kernel_rfl)
   exact stepI_run (v := .int .i64 a) rfl (by simp [execOp, go_sem, Act.eval, b1]) (hI.word 1 (by decide) (by decide) (Below.refl _ _))
  ·intro L vs ac w6 hB hL hd hI
   have h1 : L 1 = true := hd ⟨1, .data⟩ (by simp) rfl
   have b16 : ac.tmps[16]?.getD undef = .int .i64 a := (hB.val 1 h1 16 rfl).trans (hI.v 1 (by decide) h1)
   refine stepI_call (f := 27) (args := #[.int .i64 a]) rfl (by simp [go_sem, b16]) ?_
   refine (rint_any a w6).mono ?_
   rintro e w9 ⟨rfl, hb9⟩
   exact ⟨_, rfl, hI.word 2 (by decide) (by decide) hb9⟩
  ·intro L vs ac w6 hB hL hd hI
   have h0 : L 0 = true := hd ⟨0, .data⟩ (by simp) rfl
   have b15 : ac.tmps[15]?.getD undef = so 1 lo hi := (hB.val 0 h0 15 rfl).trans (hI.v 0 (by decide) h0)
   have h2 : L 2 = true := hd ⟨2, .data⟩ (by simp) rfl
   have b17 : ac.tmps[17]?.getD undef = vl 1 a [] := (hB.val 2 h2 17 rfl).trans (hI.v 2 (by decide) h2)
   refine stepI_call (f := 25) (args := #[so 1 lo hi, vl 1 a []]) rfl (by simp [go_sem, b15, b17]) ?_
   refine (HC1.out w6).mono ?_
   rintro e w9 ⟨rfl, hb9⟩
   exact ⟨_, rfl, hI.word 3 (by decide) (by decide) hb9⟩
  ·intro L vs ac w6 hB hL hd hI
   have h3 : L 3 = true := hd ⟨3, .data⟩ (by simp) rfl
   have b18 : ac.tmps[18]?.getD undef = .tuple #[vl k1 n1 [], .int .i64 e1] := (hB.val 3 h3 18 rfl).trans (hI.v 3 (by decide) h3)
   exact stepI_run (v := .tuple #[vl k1 n1 [], .int .i64 e1]) rfl (by simp [execOp, go_sem, Act.eval, b18]) (hI.word 4 (by decide) (by decide) (Below.refl _ _))
  ·intro L vs ac w6 hB hL hd hI
   have h4 : L 4 = true := hd ⟨4, .data⟩ (by simp) rfl
   have b14 : ac.tmps[14]?.getD undef = .tuple #[vl k1 n1 [], .int .i64 e1] := (hB.val 4 h4 14 rfl).trans (hI.v 4 (by decide) h4)
   exact stepI_run (v := vl k1 n1 []) rfl (by simp [execOp, go_sem, Act.eval, b14]) (hI.word 5 (by decide) (by decide) (Below.refl _ _))
  ·intro L vs ac w6 hB hL hd hI
   have h4 : L 4 = true := hd ⟨4, .data⟩ (by simp) rfl
   have b14 : ac.tmps[14]?.getD undef = .tuple #[vl k1 n1 [], .int .i64 e1] := (hB.val 4 h4 14 rfl).trans (hI.v 4 (by decide) h4)
   exact stepI_run (v := .int .i64 e1) rfl (by simp [execOp, go_sem, Act.eval, b14]) (hI.word 6 (by decide) (by decide) (Below.refl _ _))
  ·intro L vs ac w6 hB hL hd hI
   have h8 : L 8 = false := hB.wait 7 8 hL (by decide)
   exact stepI_run (v := .pointer (some ⟨w6.heap.size, 0, none⟩)) (w' := w6.alloc (.cells #[.int .i64 0, .int .i64 0, .string ⟨#[]⟩] 25)) rfl (exec_alloc 25 rfl info_vz) (hI.made h8)
  ·intro L vs ac w6 hB hL hd hI
   have h7 : L 7 = true := hd ⟨7, .data⟩ (by simp) rfl
   have h5 : L 5 = true := hd ⟨5, .data⟩ (by simp) rfl
   have b19 : ac.tmps[19]?.getD undef = vl k1 n1 [] := (hB.val 5 h5 19 rfl).trans (hI.v 5 (by decide) h5)
   obtain ⟨nb, hv, -, hx⟩ := hI.n h7
   rw [hL, if_neg Bool.false_ne_true] at hx
   have bp : ac.tmps[7]?.getD undef = .pointer (some ⟨nb, 0, none⟩) := (hB.val 7 h7 7 rfl).trans hv
   exact stepI_store_row rfl 25 7 19 rfl nb _ bp b19 _ hx info_val rfl (by simp [Value.oneCell']) (hI.put h7 hv rfl)
  ·intro L vs ac w6 hB hL hd hI
   have h6 : L 6 = true := hd ⟨6, .data⟩ (by simp) rfl
   have b20 : ac.tmps[20]?.getD undef = .int .i64 e1 := (hB.val 6 h6 20 rfl).trans (hI.v 6 (by decide) h6)
   exact stepI_run (v := .int .i64 e1) rfl (by simp [execOp, go_sem, Act.eval, b20]) (hI.word 9 (by decide) (by decide) (Below.refl _ _))
 ·intro L vs w7a hall hI
  have e9 : vs 9 = .int .i64 e1 := hI.v 9 (by decide) (hall 9 (by decide))
  obtain ⟨nba, e7, hnb, hx⟩ := hI.n (hall 7 (by decide))
  rw [hall 8 (by decide), if_pos rfl] at hx
  have HXa := Lib.hid hx
  have HWa := Lib.hid hI.b
  clear hI hall hx hnb
  simp only [putAll, Act.put, List.setIfInBounds_toArray, List.set_cons_zero, List.set_cons_succ, Nat.zero_add, Nat.reduceAdd, e7, e9]
  clear e7 e9
  have HS4 := Lib.hid (HS3.out.below HWa.out)
  have HB4 := Lib.hid (below_ext2 HB3.out HWa.out)
  clear HS3 HB3 HC1 HWa
  go_wp2_with fail
  refine region_invE (n := 78) (C3 w7a #[.int .i64 k2, .int .i64 n2, .string (ofL [])] (fun i => match i with | 0 => so 1 lo hi | 1 => .int .i64 b | 2 => vl 1 b [] | 3 => .tuple #[vl k2 n2 [], .int .i64 e2] | 4 => .tuple #[vl k2 n2 [], .int .i64 e2] | 5 => vl k2 n2 [] | 6 => .int .i64 e2 | 8 => undef | _ => .int .i64 e2)) (by kernel_rfl) (by kernel_rfl) rfl ?_ (allOps_spec ?_) ?_
  ·intro vs
   exact C3.start
  ·refine ⟨?_, ?_, ?_, ?_, ?_, ?_, ?_, ?_, ?_, ?_, trivial⟩
   ·intro L vs ac w6 hB hL hd hI
    have b3 : ac.tmps[3]?.getD undef = .pointer (some ⟨sb, 0, none⟩) := hB.at 3 (by kernel_rfl)
    have k0 := (HS4.out.below hI.b).cell 0
    have k1 := (HS4.out.below hI.b).cell 1
    have k2 := (HS4.out.below hI.b).cell 2
    exact stepI_run (v := so 1 lo hi) rfl (by simp [execOp, go_sem, Act.eval, b3, k0, k1, k2, so]) (hI.word 0 (by decide) (by decide) (Below.refl _ _))
   ·intro L vs ac w6 hB hL hd hI
    have b1 : ac.tmps[2]?.getD undef = .int .i64 b := hB.at 2 (by kernel_rfl)
    exact stepI_run (v := .int .i64 b) rfl (by simp [execOp, go_sem, Act.eval, b1]) (hI.word 1 (by decide) (by decide) (Below.refl _ _))
   ·intro L vs ac w6 hB hL hd hI
    have h1 : L 1 = true := hd ⟨1, .data⟩ (by simp) rfl
    have b23 : ac.tmps[23]?.getD undef = .int .i64 b := (hB.val 1 h1 23 rfl).trans (hI.v 1 (by decide) h1)
    refine stepI_call (f := 27) (args := #[.int .i64 b]) rfl (by simp [go_sem, b23]) ?_
    refine (rint_any b w6).mono ?_
    rintro e w9 ⟨rfl, hb9⟩
    exact ⟨_, rfl, hI.word 2 (by decide) (by decide) hb9⟩
   ·intro L vs ac w6 hB hL hd hI
    have h0 : L 0 = true := hd ⟨0, .data⟩ (by simp) rfl
    have b22 : ac.tmps[22]?.getD undef = so 1 lo hi := (hB.val 0 h0 22 rfl).trans (hI.v 0 (by decide) h0)
    have h2 : L 2 = true := hd ⟨2, .data⟩ (by simp) rfl
    have b24 : ac.tmps[24]?.getD undef = vl 1 b [] := (hB.val 2 h2 24 rfl).trans (hI.v 2 (by decide) h2)
    refine stepI_call (f := 25) (args := #[so 1 lo hi, vl 1 b []]) rfl (by simp [go_sem, b22, b24]) ?_
    refine (HC2.out w6).mono ?_
    rintro e w9 ⟨rfl, hb9⟩
    exact ⟨_, rfl, hI.word 3 (by decide) (by decide) hb9⟩
   ·intro L vs ac w6 hB hL hd hI
    have h3 : L 3 = true := hd ⟨3, .data⟩ (by simp) rfl
    have b25 : ac.tmps[25]?.getD undef = .tuple #[vl k2 n2 [], .int .i64 e2] := (hB.val 3 h3 25 rfl).trans (hI.v 3 (by decide) h3)
    exact stepI_run (v := .tuple #[vl k2 n2 [], .int .i64 e2]) rfl (by simp [execOp, go_sem, Act.eval, b25]) (hI.word 4 (by decide) (by decide) (Below.refl _ _))
   ·intro L vs ac w6 hB hL hd hI
    have h4 : L 4 = true := hd ⟨4, .data⟩ (by simp) rfl
    have b21 : ac.tmps[21]?.getD undef = .tuple #[vl k2 n2 [], .int .i64 e2] := (hB.val 4 h4 21 rfl).trans (hI.v 4 (by decide) h4)
    exact stepI_run (v := vl k2 n2 []) rfl (by simp [execOp, go_sem, Act.eval, b21]) (hI.word 5 (by decide) (by decide) (Below.refl _ _))
   ·intro L vs ac w6 hB hL hd hI
    have h4 : L 4 = true := hd ⟨4, .data⟩ (by simp) rfl
    have b21 : ac.tmps[21]?.getD undef = .tuple #[vl k2 n2 [], .int .i64 e2] := (hB.val 4 h4 21 rfl).trans (hI.v 4 (by decide) h4)
    exact stepI_run (v := .int .i64 e2) rfl (by simp [execOp, go_sem, Act.eval, b21]) (hI.word 6 (by decide) (by decide) (Below.refl _ _))
   ·intro L vs ac w6 hB hL hd hI
    have h8 : L 8 = false := hB.wait 7 8 hL (by decide)
    exact stepI_run (v := .pointer (some ⟨w6.heap.size, 0, none⟩)) (w' := w6.alloc (.cells #[.int .i64 0, .int .i64 0, .string ⟨#[]⟩] 25)) rfl (exec_alloc 25 rfl info_vz) (hI.made h8)
   ·intro L vs ac w6 hB hL hd hI
    have h7 : L 7 = true := hd ⟨7, .data⟩ (by simp) rfl
    have h5 : L 5 = true := hd ⟨5, .data⟩ (by simp) rfl
    have b26 : ac.tmps[26]?.getD undef = vl k2 n2 [] := (hB.val 5 h5 26 rfl).trans (hI.v 5 (by decide) h5)
    obtain ⟨nb, hv, -, hx⟩ := hI.n h7
    rw [hL, if_neg Bool.false_ne_true] at hx
    have bp : ac.tmps[9]?.getD undef = .pointer (some ⟨nb, 0, none⟩) := (hB.val 7 h7 9 rfl).trans hv
    exact stepI_store_row rfl 25 9 26 rfl nb _ bp b26 _ hx info_val rfl (by simp [Value.oneCell']) (hI.put h7 hv rfl)
   ·intro L vs ac w6 hB hL hd hI
    have h6 : L 6 = true := hd ⟨6, .data⟩ (by simp) rfl
    have b27 : ac.tmps[27]?.getD undef = .int .i64 e2 := (hB.val 6 h6 27 rfl).trans (hI.v 6 (by decide) h6)
    exact stepI_run (v := .int .i64 e2) rfl (by simp [execOp, go_sem, Act.eval, b27]) (hI.word 9 (by decide) (by decide) (Below.refl _ _))
  ·intro L vs w7b hall hI
   have e9 : vs 9 = .int .i64 e2 := hI.v 9 (by decide) (hall 9 (by decide))
   obtain ⟨nbb, e7, hnb, hx⟩ := hI.n (hall 7 (by decide))
   rw [hall 8 (by decide), if_pos rfl] at hx
   have HXb := Lib.hid hx
   have HWb := Lib.hid hI.b
   clear hI hall hx hnb
   simp only [putAll, Act.put, List.setIfInBounds_toArray, List.set_cons_zero, List.set_cons_succ, Nat.zero_add, Nat.reduceAdd, e7, e9]
   clear e7 e9
   have HS5 := Lib.hid (HS4.out.below HWb.out)
   have HX5 := Lib.hid (HXa.out.below HWb.out)
   have HB5 := Lib.hid (below_ext2 HB4.out HWb.out)
   clear HS4 HB4 HC2 HWb HXa
   by_cases h1 : e1 = 0
   ·subst h1
    by_cases h2 : e2 = 0
    ·subst h2
     obtain ⟨hsv, hia, hn1, hib, hn2⟩ := mono_facts HR1.out HR2.out
     clear HR1 HR2
     have x1 := HX5.out.cell 1
     have y1 := HXb.out.cell 1
     have s1 := HS5.out.cell 1
     have s2 := HS5.out.cell 2
     by_cases c1 : b < a
     ·have d1 : decide (b < a) = true := decide_eq_true c1
      by_cases c2 : b < lo
      ·have d2 : decide (b < lo) = true := decide_eq_true c2
       clear hsv hia hn1 hib hn2
       go_wp2_with fail
       go_ret
       exact ⟨rfl, HB5.out⟩
      ·have d2 : decide (b < lo) = false := decide_eq_false c2
       by_cases c3 : hi < b
       ·have d3 : decide (hi < b) = true := decide_eq_true c3
        clear hsv hia hn1 hib hn2
        go_wp2_with fail
        go_ret
        exact ⟨rfl, HB5.out⟩
       ·have d3 : decide (hi < b) = false := decide_eq_false c3
        have d4 : decide (b ≤ n1) = true := decide_eq_true (by omega)
        by_cases c5 : n1 ≤ b
        ·have d5 : decide (n1 ≤ b) = true := decide_eq_true c5
         clear hsv hia hn1 hib hn2
         go_wp2_with fail
         go_ret
         exact ⟨rfl, HB5.out⟩
        ·have d5 : decide (n1 ≤ b) = false := decide_eq_false c5
         clear hsv hia hn1 hib hn2
         go_wp2_with fail
         go_ret
         exact ⟨rfl, HB5.out⟩
     ·have d1 : decide (b < a) = false := decide_eq_false c1
      have d6 : decide (n1 ≤ n2) = true := decide_eq_true (by omega)
      by_cases c2 : b < lo
      ·have d2 : decide (b < lo) = true := decide_eq_true c2
       clear hsv hia hn1 hib hn2
       go_wp2_with fail
       go_ret
       exact ⟨rfl, HB5.out⟩
      ·have d2 : decide (b < lo) = false := decide_eq_false c2
       by_cases c3 : hi < b
       ·have d3 : decide (hi < b) = true := decide_eq_true c3
        clear hsv hia hn1 hib hn2
        go_wp2_with fail
        go_ret
        exact ⟨rfl, HB5.out⟩
       ·have d3 : decide (hi < b) = false := decide_eq_false c3
        have d5 : decide (n1 ≤ b) = true := decide_eq_true (by omega)
        by_cases c4 : b ≤ n1
        ·have d4 : decide (b ≤ n1) = true := decide_eq_true c4
         clear hsv hia hn1 hib hn2
         go_wp2_with fail
         go_ret
         exact ⟨rfl, HB5.out⟩
        ·have d4 : decide (b ≤ n1) = false := decide_eq_false c4
         have d7 : decide (a < b) = true := decide_eq_true (by omega)
         clear hsv hia hn1 hib hn2
         go_wp2_with fail
         go_ret
         exact ⟨rfl, HB5.out⟩
    ·obtain ⟨g1, g2⟩ := eqb e2 0 h2
     have g3 : (e2 != 0) = true := by rw [bne, g1]; rfl
     clear HR1 HR2
     go_wp2_with fail
     go_ret
     exact ⟨rfl, HB5.out⟩
   ·obtain ⟨g1, g2⟩ := eqb e1 0 h1
    have g3 : (e1 != 0) = true := by rw [bne, g1]; rfl
    clear HR1 HR2
    go_wp2_with fail
    go_ret
    exact ⟨rfl, HB5.out⟩
end Go.Proofs.YtnainhpcmoekcaaGreatDoor
