/- value: the law's awake (tools/gen_va2.py). -/
import Derived.Test.YtnainhpcmoekcaaGreatDoorVaI
import Derived.Test.YtnainhpcmoekcaaGreatDoorRegE
namespace Go.Proofs.YtnainhpcmoekcaaGreatDoor
open Go.RowKit

theorem info_vz : (Tryz.prog.info? 25).map (fun i => (i.zero, i.size, i.bytes)) = some (some (.agg #[.int .i64 0, .int .i64 0, .string ⟨#[]⟩]), 3, 32) := by kernel_rfl
theorem rint_any (n : Int) (w : World) : Calls Tryz.prog 27 #[.int .i64 n] w (Tells w (vl 1 n [])) := by
 go_enter Tryz.func27, Tryz.ntmps27
 go_wp2_with fail
 refine bodyPost_ret (bx_ret (Bx.new w 25 #[.int .i64 1, .int .i64 n, .string ⟨#[]⟩]) rfl _ rfl Tryz.underlying25 rfl info_val) rfl ?_
 exact ⟨rfl, al1 w _⟩
theorem rtext_any (s : Bs) (w : World) : Calls Tryz.prog 43 #[.string (ofL s)] w (Tells w (vl 2 0 s)) := by
 go_enter Tryz.func43, Tryz.ntmps43
 go_wp2_with fail
 refine bodyPost_ret (bx_ret (Bx.new w 25 #[.int .i64 2, .int .i64 0, .string (ofL s)]) rfl _ rfl Tryz.underlying25 rfl info_val) rfl ?_
 exact ⟨rfl, al1 w _⟩
/-- 'b, f := value.Clamp(s, ref.Int(12))' in any order. -/
structure A3 (W : World) (val : Nat → Value) (L : Nat → Bool) (vs : Nat → Value) (w : World) : Prop where
 v : ∀ i, i ≠ 6 → L i = true → vs i = val i
 n : L 6 = true → ∃ nb, vs 6 = .pointer (some ⟨nb, 0, none⟩) ∧ W.heap.size ≤ nb ∧ Bx w nb 25 (if L 7 = true then #[.int .i64 1, .int .i64 9, .string ⟨#[]⟩] else #[.int .i64 0, .int .i64 0, .string ⟨#[]⟩])
 b : Below W.heap.size W w
section
variable {W w w' : World} {val : Nat → Value} {L : Nat → Bool} {vs : Nat → Value}
theorem A3.start : A3 W val (fun _ => false) vs W.drew := ⟨fun _ _ h => absurd h (by simp), fun h => absurd h (by simp), (Below.refl _ W).drew⟩
theorem A3.word (h : A3 W val L vs w) (i : Nat) (h6 : 6 ≠ i) (h7 : 7 ≠ i) (hb : Below w.heap.size w w') : A3 W val (updB L i) (updV vs i (val i)) w' := by
 refine ⟨fun j hj hl => ?_, fun hl => ?_, h.b.trans (hb.mono h.b.size)⟩
 ·by_cases e : j = i
  ·subst e; rw [updV_self]
  ·rw [updV_ne _ _ e]; exact h.v j hj (by rwa [updB_ne L e] at hl)
 ·rw [updB_ne L h6] at hl
  obtain ⟨nb, h1, h2, h3⟩ := h.n hl
  rw [updV_ne _ _ h6, updB_ne L h7]
  exact ⟨nb, h1, h2, h3.below hb⟩
theorem A3.made (h : A3 W val L vs w) (h7 : L 7 = false) : A3 W val (updB L 6) (updV vs 6 (.pointer (some ⟨w.heap.size, 0, none⟩))) (w.alloc (.cells #[.int .i64 0, .int .i64 0, .string ⟨#[]⟩] 25)) := by
 refine ⟨fun j hj hl => ?_, fun _ => ?_, h.b.trans ((al1 w _).mono h.b.size)⟩
 ·rw [updV_ne _ _ hj]; exact h.v j hj (by rwa [updB_ne L hj] at hl)
 ·rw [updV_self, updB_ne L (by decide), h7]
  exact ⟨w.heap.size, rfl, h.b.size, heap_alloc_new w _⟩
theorem A3.put (h : A3 W val L vs w) (h6 : L 6 = true) {nb : Nat} (hv : vs 6 = .pointer (some ⟨nb, 0, none⟩)) : A3 W val (updB L 7) (updV vs 7 undef) (w.setRow nb #[.int .i64 1, .int .i64 9, .string ⟨#[]⟩]) ∨ val 7 ≠ undef := by
 by_cases hu : val 7 = undef
 ·left
  obtain ⟨nb', h1, h2, h3⟩ := h.n h6
  rw [hv] at h1
  obtain rfl : nb = nb' := by simpa using h1
  refine ⟨fun j hj hl => ?_, fun _ => ?_, below_setRow h.b h2 _⟩
  ·by_cases e : j = 7
   ·subst e; rw [updV_self, hu]
   ·rw [updV_ne _ _ e]; exact h.v j hj (by rwa [updB_ne L e] at hl)
  ·rw [updV_ne _ _ (by decide), updB_self, if_pos rfl]
   exact ⟨nb, hv, h2, h3.row⟩
 ·exact .inr hu
end
/-- The words of the last region: values, and two slices of one value. -/
def AwP (val : Nat → Value) (i : Nat) (v : Value) (w : World) : Prop := if i = 32 ∨ i = 34 then ∃ g, v = .slice (some ⟨g, 0, none⟩) 1 1 ∧ Bx w g 25 #[.int .i64 1, .int .i64 (-3), .string (ofL [])] else v = val i
section
variable {P : Program} {ops : Array Oper} {Q : Exit → Act → World → Prop} {val : Nat → Value} {i : Nat} {o : Oper} {a : Act} {w w' : World} {v : Value}
theorem AwP.stay (h : AwP val i v w) (hb : Below w.heap.size w w') : AwP val i v w' := by
 unfold AwP at h ⊢
 split
 ·rename_i e
  rw [if_pos e] at h
  obtain ⟨g, h1, h2⟩ := h
  exact ⟨g, h1, h2.below hb⟩
 ·rename_i e
  rwa [if_neg e] at h
theorem aw_get {t q : Nat} (h : AwP val q (slotOf a (some t)) w) (hq : ¬ (q = 32 ∨ q = 34)) : a.tmps[t]?.getD undef = val q := by
 unfold AwP at h
 rw [if_neg hq] at h
 exact slot_eq.symm.trans h
theorem aw_mk (hq : ¬ (i = 32 ∨ i = 34)) : AwP val i (val i) w := by unfold AwP; rw [if_neg hq]
theorem aw_sl {t q : Nat} (h : AwP val q (slotOf a (some t)) w) (hq : q = 32 ∨ q = 34) : ∃ g, a.tmps[t]?.getD undef = .slice (some ⟨g, 0, none⟩) 1 1 ∧ Bx w g 25 #[.int .i64 1, .int .i64 (-3), .string (ofL [])] := by
 unfold AwP at h
 rw [if_pos hq] at h
 obtain ⟨g, h1, h2⟩ := h
 exact ⟨g, slot_eq.symm.trans h1, h2⟩
theorem aw_run (hq : ¬ (i = 32 ∨ i = 34)) (hw : Region.wanted o (yielded ops a.tmps) = true) (hr : (execOp a.eval o).run P w = .ok (.value (val i)) w) : StepOk P ops Q (AwP val) i o a w := step_run hw hr (aw_mk hq)
theorem aw_new (hq : i = 32 ∨ i = 34) (hw : Region.wanted o (yielded ops a.tmps) = true) (hr : (execOp a.eval o).run P w = .ok (.value (.slice (some ⟨w.heap.size, 0, none⟩) 1 1)) (w.alloc (.cells #[.int .i64 1, .int .i64 (-3), .string (ofL [])] 25))) : StepOk P ops Q (AwP val) i o a w :=
 step_on hw (by
  unfold Oper.wp
  rw [hr]
  refine ⟨_, rfl, al1 w _, ?_⟩
  unfold AwP
  rw [if_pos hq]
  exact ⟨w.heap.size, rfl, heap_alloc_new w _⟩)
end
set_option maxRecDepth 100000 in
set_option maxHeartbeats 4000000 in
theorem awake_any (w : World) : Calls Tryz.prog 12 #[] w (Tells w (.bool true)) := by
 have HB1 := Lib.hid (al1 w (.cells #[.int .i64 1, .int .i64 (-3), .int .i64 9] 23))
 have HS1 := Lib.hid (Bx.new w 23 #[.int .i64 1, .int .i64 (-3), .int .i64 9])
 have HC := Lib.hid (least_int (-3) 9 (w.alloc (.cells #[.int .i64 1, .int .i64 (-3), .int .i64 9] 23)) (by decide))
 unfold so vl at HC
 go_enter Tryz.func12, Tryz.ntmps12
 go_wp2_with fail
 refine HC.out.mono ?_
 rintro e w1 ⟨rfl, hb⟩
 obtain ⟨sb, hsb⟩ : ∃ sb, sb = w.heap.size := ⟨_, rfl⟩
 rw [← hsb] at HS1 ⊢
 have hba := al1 w1 (.cells #[.int .i64 1, .int .i64 (-3), .string (ofL [])] 25)
 have HS2 := Lib.hid ((HS1.out.below hb).below hba)
 have HB2 := Lib.hid (below_ext2 HB1.out (below_ext2 hb hba))
 have HA2 := Lib.hid (Bx.new w1 25 #[.int .i64 1, .int .i64 (-3), .string (ofL [])])
 clear hsb hb hba HC HB1 HS1
 go_wp2_with fail
 obtain ⟨W, hW⟩ : ∃ W, W = w1.alloc (.cells #[.int .i64 1, .int .i64 (-3), .string (ofL [])] 25) := ⟨_, rfl⟩
 rw [← hW] at HS2 HB2 HA2 ⊢
 obtain ⟨ab, hab⟩ : ∃ ab, ab = w1.heap.size := ⟨_, rfl⟩
 rw [← hab] at HA2 ⊢
 clear hW hab
 refine region_invE (n := 61) (A3 W (fun i => match i with | 0 => so 1 (-3) 9 | 1 => vl 1 12 [] | 2 => .tuple #[vl 1 9 [], .int .i64 0] | 3 => .tuple #[vl 1 9 [], .int .i64 0] | 4 => vl 1 9 [] | 5 => .int .i64 0 | 7 => undef | _ => .int .i64 0)) (by kernel_rfl) (by kernel_rfl) rfl ?_ (allOps_spec ?_) ?_
 ·intro vs
  exact A3.start
 ·refine ⟨?_, ?_, ?_, ?_, ?_, ?_, ?_, ?_, ?_, trivial⟩
  ·intro L vs ac w6 hB hL hd hI
   have b1 : ac.tmps[1]?.getD undef = .pointer (some ⟨sb, 0, none⟩) := hB.at 1 (by kernel_rfl)
   have k0 := (HS2.out.below hI.b).cell 0
   have k1 := (HS2.out.below hI.b).cell 1
   have k2 := (HS2.out.below hI.b).cell 2
   exact stepI_run (v := so 1 (-3) 9) rfl (by simp [execOp, go_sem, Act.eval, b1, k0, k1, k2, so]) (hI.word 0 (by decide) (by decide) (Below.refl _ _))
  ·intro L vs ac w6 hB hL hd hI
   refine stepI_call (f := 27) (args := #[.int .i64 12]) rfl (by simp [go_sem]) ?_
   refine (rint_any 12 w6).mono ?_
   rintro e w9 ⟨rfl, hb9⟩
   exact ⟨_, rfl, hI.word 1 (by decide) (by decide) hb9⟩
  ·intro L vs ac w6 hB hL hd hI
   have h0 : L 0 = true := hd ⟨0, .data⟩ (by simp) rfl
   have h1 : L 1 = true := hd ⟨1, .data⟩ (by simp) rfl
   have b15 : ac.tmps[15]?.getD undef = so 1 (-3) 9 := (hB.val 0 h0 15 rfl).trans (hI.v 0 (by decide) h0)
   have b16 : ac.tmps[16]?.getD undef = vl 1 12 [] := (hB.val 1 h1 16 rfl).trans (hI.v 1 (by decide) h1)
   refine stepI_call (f := 25) (args := #[so 1 (-3) 9, vl 1 12 []]) rfl (by simp [go_sem, b15, b16]) ?_
   refine (clamp_int (-3) 9 12 w6 (by decide) (by decide)).mono ?_
   rintro e w9 ⟨rfl, hb9⟩
   exact ⟨_, rfl, hI.word 2 (by decide) (by decide) hb9⟩
  ·intro L vs ac w6 hB hL hd hI
   have h0 : L 2 = true := hd ⟨2, .data⟩ (by simp) rfl
   have b17 : ac.tmps[17]?.getD undef = .tuple #[vl 1 9 [], .int .i64 0] := (hB.val 2 h0 17 rfl).trans (hI.v 2 (by decide) h0)
   exact stepI_run (v := .tuple #[vl 1 9 [], .int .i64 0]) rfl (by simp [execOp, go_sem, Act.eval, b17]) (hI.word 3 (by decide) (by decide) (Below.refl _ _))
  ·intro L vs ac w6 hB hL hd hI
   have h0 : L 3 = true := hd ⟨3, .data⟩ (by simp) rfl
   have b14 : ac.tmps[14]?.getD undef = .tuple #[vl 1 9 [], .int .i64 0] := (hB.val 3 h0 14 rfl).trans (hI.v 3 (by decide) h0)
   exact stepI_run (v := vl 1 9 []) rfl (by simp [execOp, go_sem, Act.eval, b14]) (hI.word 4 (by decide) (by decide) (Below.refl _ _))
  ·intro L vs ac w6 hB hL hd hI
   have h0 : L 3 = true := hd ⟨3, .data⟩ (by simp) rfl
   have b14 : ac.tmps[14]?.getD undef = .tuple #[vl 1 9 [], .int .i64 0] := (hB.val 3 h0 14 rfl).trans (hI.v 3 (by decide) h0)
   exact stepI_run (v := .int .i64 0) rfl (by simp [execOp, go_sem, Act.eval, b14]) (hI.word 5 (by decide) (by decide) (Below.refl _ _))
  ·intro L vs ac w6 hB hL hd hI
   have h7 : L 7 = false := hB.wait 6 7 hL (by decide)
   exact stepI_run (v := .pointer (some ⟨w6.heap.size, 0, none⟩)) (w' := w6.alloc (.cells #[.int .i64 0, .int .i64 0, .string ⟨#[]⟩] 25)) rfl (exec_alloc 25 rfl info_vz) (hI.made h7)
  ·intro L vs ac w6 hB hL hd hI
   have h6 : L 6 = true := hd ⟨6, .data⟩ (by simp) rfl
   have h4 : L 4 = true := hd ⟨4, .data⟩ (by simp) rfl
   obtain ⟨nb, hv, -, hx⟩ := hI.n h6
   rw [hL, if_neg Bool.false_ne_true] at hx
   have bp : ac.tmps[4]?.getD undef = .pointer (some ⟨nb, 0, none⟩) := (hB.val 6 h6 4 rfl).trans hv
   have bq : ac.tmps[18]?.getD undef = vl 1 9 [] := (hB.val 4 h4 18 rfl).trans (hI.v 4 (by decide) h4)
   have hput := (hI.put h6 hv).resolve_right (fun h => h rfl)
   exact stepI_store_row rfl 25 4 18 rfl nb _ bp bq _ hx info_val rfl (by simp [Value.oneCell']) hput
  ·intro L vs ac w6 hB hL hd hI
   have h5 : L 5 = true := hd ⟨5, .data⟩ (by simp) rfl
   have b19 : ac.tmps[19]?.getD undef = .int .i64 0 := (hB.val 5 h5 19 rfl).trans (hI.v 5 (by decide) h5)
   exact stepI_run (v := .int .i64 0) rfl (by simp [execOp, go_sem, Act.eval, b19]) (hI.word 8 (by decide) (by decide) (Below.refl _ _))
 ·intro L vs w7 hall hI
  have e8 : vs 8 = .int .i64 0 := hI.v 8 (by decide) (hall 8 (by decide))
  obtain ⟨nb, e6, hnb, hx⟩ := hI.n (hall 6 (by decide))
  rw [hall 7 (by decide), if_pos rfl] at hx
  have HX7 := Lib.hid hx
  have HA7 := Lib.hid (HA2.out.below hI.b)
  have HB7 := Lib.hid (below_ext2 HB2.out hI.b)
  clear hI hall hx hnb HS2 HB2 HA2
  simp only [putAll, Act.put, List.setIfInBounds_toArray, List.set_cons_zero, List.set_cons_succ, Nat.zero_add, Nat.reduceAdd, e6, e8]
  clear e6 e8
  have HP := Lib.hid (parse_text [97, 92, 34, 98, 34] w7 (by decide))
  go_wp2_with fail
  refine HP.out.mono ?_
  rintro e w8 ⟨k, n, s, x, rfl, hp, hb8⟩
  rw [show txF (([97, 92, 34, 98, 34] : Bs).length + 1) [97, 92, 34, 98, 34] = some ([97, 34, 98], []) from tx_doc] at hp
  obtain ⟨rfl, rfl, rfl, rfl⟩ : k = 2 ∧ n = 0 ∧ s = [97, 34, 98] ∧ x = 0 := hp
  have hba := al1 w8 (.cells #[.int .i64 2, .int .i64 0, .string (ofL [97, 34, 98])] 25)
  have HX9 := Lib.hid ((HX7.out.below hb8).below hba)
  have HA9 := Lib.hid ((HA7.out.below hb8).below hba)
  have HP9 := Lib.hid (Bx.new w8 25 #[.int .i64 2, .int .i64 0, .string (ofL [97, 34, 98])])
  have HB9 := Lib.hid (below_ext2 HB7.out (below_ext2 hb8 hba))
  clear hb8 hba HX7 HA7 HB7 HP
  unfold vl
  go_wp2_with fail
  obtain ⟨Z, hZ⟩ : ∃ Z, Z = w8.alloc (.cells #[.int .i64 2, .int .i64 0, .string (ofL [97, 34, 98])] 25) := ⟨_, rfl⟩
  rw [← hZ] at HX9 HA9 HP9 HB9 ⊢
  obtain ⟨pb, hpb⟩ : ∃ pb, pb = w8.heap.size := ⟨_, rfl⟩
  rw [← hpb] at HP9 ⊢
  clear hZ hpb
  refine region_phi (n := 61) (AwP (fun i => match i with | 0 => .int .i64 0 | 1 => .bool true | 2 => .bool true | 3 => .int .i64 0 | 4 => .bool true | 5 => .bool true | 6 => .bool true | 7 => .int .i64 0 | 8 => .bool true | 9 => .bool true | 10 => .bool true | 11 => .agg #[.int .i64 1, .int .i64 (-3), .string (ofL [])] | 12 => .agg #[.int .i64 1, .int .i64 (-3), .string (ofL [])] | 13 => .bool true | 14 => .bool true | 15 => .bool true | 16 => .agg #[.int .i64 1, .int .i64 9, .string (ofL [])] | 17 => .agg #[.int .i64 1, .int .i64 9, .string (ofL [])] | 18 => .bool true | 19 => .bool true | 20 => .bool true | 21 => .agg #[.int .i64 2, .int .i64 0, .string (ofL [97, 34, 98])] | 22 => .agg #[.int .i64 2, .int .i64 0, .string (ofL [97, 34, 98])] | 23 => .bool true | 24 => .bool true | 25 => .bool true | 26 => .agg #[.int .i64 2, .int .i64 0, .string (ofL [97, 34, 98])] | 27 => .string (ofL (shT [97, 34, 98])) | 28 => .bool true | 29 => .bool true | 30 => .bool true | 31 => .agg #[.int .i64 1, .int .i64 (-3), .string (ofL [])] | 32 => undef | 33 => .agg #[.int .i64 1, .int .i64 (-3), .string (ofL [])] | 34 => undef | 35 => .bool true | 36 => .bool true | 37 => .bool true | _ => undef)) (by kernel_rfl) (by kernel_rfl) rfl (fun _ _ _ _ h hb => h.stay hb) (allOps_spec ?_) ?_
  ·refine ⟨?_, ?_, ?_, ?_, ?_, ?_, ?_, ?_, ?_, ?_, ?_, ?_, ?_, ?_, ?_, ?_, ?_, ?_, ?_, ?_, ?_, ?_, ?_, ?_, ?_, ?_, ?_, ?_, ?_, ?_, ?_, ?_, ?_, ?_, ?_, ?_, ?_, ?_, trivial⟩
   ·intro ac w' hb hp
    have b3 : ac.tmps[3]?.getD undef = .int .i64 0 := hb.at 3 (by kernel_rfl)
    exact aw_run (by decide) rfl (by simp [execOp, go_sem, Act.eval, b3])
   ·intro ac w' hb hp
    have b24 : ac.tmps[24]?.getD undef = .int .i64 0 := aw_get (hp ⟨0, .data⟩ (by simp) rfl _ rfl) (by decide)
    exact aw_run (by decide) rfl (by simp [execOp, go_sem, Act.eval, b24])
   ·intro ac w' hb hp
    have b25 : ac.tmps[25]?.getD undef = .bool true := aw_get (hp ⟨1, .data⟩ (by simp) rfl _ rfl) (by decide)
    exact aw_run (by decide) rfl (by simp [execOp, go_sem, Act.eval, b25])
   ·intro ac w' hb hp
    have gg : ac.tmps[26]?.getD undef = .bool true := aw_get (hp ⟨2, .guard⟩ (by simp) rfl _ rfl) (by decide)
    have b5 : ac.tmps[5]?.getD undef = .int .i64 0 := hb.at 5 (by kernel_rfl)
    exact aw_run (by decide) (by simp [Region.wanted, yielded, bool_at gg]) (by simp [execOp, go_sem, Act.eval, b5])
   ·intro ac w' hb hp
    have gg : ac.tmps[26]?.getD undef = .bool true := aw_get (hp ⟨2, .guard⟩ (by simp) rfl _ rfl) (by decide)
    have b27 : ac.tmps[27]?.getD undef = .int .i64 0 := aw_get (hp ⟨3, .data⟩ (by simp) rfl _ rfl) (by decide)
    exact aw_run (by decide) (by simp [Region.wanted, yielded, bool_at gg]) (by simp [execOp, go_sem, Act.eval, b27])
   ·intro ac w' hb hp
    have b26 : ac.tmps[26]?.getD undef = .bool true := aw_get (hp ⟨2, .data⟩ (by simp) rfl _ rfl) (by decide)
    have b28 : ac.tmps[28]?.getD undef = .bool true := aw_get (hp ⟨4, .data⟩ (by simp) rfl _ rfl) (by decide)
    exact aw_run (by decide) rfl (by simp [execOp, go_sem, Act.eval, b26, b28])
   ·intro ac w' hb hp
    have b29 : ac.tmps[29]?.getD undef = .bool true := aw_get (hp ⟨5, .data⟩ (by simp) rfl _ rfl) (by decide)
    exact aw_run (by decide) rfl (by simp [execOp, go_sem, Act.eval, b29])
   ·intro ac w' hb hp
    have gg : ac.tmps[30]?.getD undef = .bool true := aw_get (hp ⟨6, .guard⟩ (by simp) rfl _ rfl) (by decide)
    have b7 : ac.tmps[7]?.getD undef = .int .i64 0 := hb.at 7 (by kernel_rfl)
    exact aw_run (by decide) (by simp [Region.wanted, yielded, bool_at gg]) (by simp [execOp, go_sem, Act.eval, b7])
   ·intro ac w' hb hp
    have gg : ac.tmps[30]?.getD undef = .bool true := aw_get (hp ⟨6, .guard⟩ (by simp) rfl _ rfl) (by decide)
    have b31 : ac.tmps[31]?.getD undef = .int .i64 0 := aw_get (hp ⟨7, .data⟩ (by simp) rfl _ rfl) (by decide)
    exact aw_run (by decide) (by simp [Region.wanted, yielded, bool_at gg]) (by simp [execOp, go_sem, Act.eval, b31])
   ·intro ac w' hb hp
    have b30 : ac.tmps[30]?.getD undef = .bool true := aw_get (hp ⟨6, .data⟩ (by simp) rfl _ rfl) (by decide)
    have b32 : ac.tmps[32]?.getD undef = .bool true := aw_get (hp ⟨8, .data⟩ (by simp) rfl _ rfl) (by decide)
    exact aw_run (by decide) rfl (by simp [execOp, go_sem, Act.eval, b30, b32])
   ·intro ac w' hb hp
    have b33 : ac.tmps[33]?.getD undef = .bool true := aw_get (hp ⟨9, .data⟩ (by simp) rfl _ rfl) (by decide)
    exact aw_run (by decide) rfl (by simp [execOp, go_sem, Act.eval, b33])
   ·intro ac w' hb hp
    have gg : ac.tmps[34]?.getD undef = .bool true := aw_get (hp ⟨10, .guard⟩ (by simp) rfl _ rfl) (by decide)
    have b2 : ac.tmps[2]?.getD undef = .pointer (some ⟨ab, 0, none⟩) := hb.at 2 (by kernel_rfl)
    have k0 := (HA9.out.below hb.ext).cell 0
    have k1 := (HA9.out.below hb.ext).cell 1
    have k2 := (HA9.out.below hb.ext).cell 2
    exact aw_run (by decide) (by simp [Region.wanted, yielded, bool_at gg]) (by simp [execOp, go_sem, Act.eval, b2, k0, k1, k2])
   ·intro ac w' hb hp
    have gg : ac.tmps[34]?.getD undef = .bool true := aw_get (hp ⟨10, .guard⟩ (by simp) rfl _ rfl) (by decide)
    refine step_call (f := 27) (args := #[.int .i64 (-3)]) (by simp [Region.wanted, yielded, bool_at gg]) (by simp [go_sem]) ?_
    exact (rint_any (-3) w').mono fun e w9 h9 => ⟨_, h9.1, h9.2, aw_mk (by decide)⟩
   ·intro ac w' hb hp
    have gg : ac.tmps[34]?.getD undef = .bool true := aw_get (hp ⟨10, .guard⟩ (by simp) rfl _ rfl) (by decide)
    have b35 : ac.tmps[35]?.getD undef = .agg #[.int .i64 1, .int .i64 (-3), .string (ofL [])] := aw_get (hp ⟨11, .data⟩ (by simp) rfl _ rfl) (by decide)
    have b36 : ac.tmps[36]?.getD undef = .agg #[.int .i64 1, .int .i64 (-3), .string (ofL [])] := aw_get (hp ⟨12, .data⟩ (by simp) rfl _ rfl) (by decide)
    exact aw_run (by decide) (by simp [Region.wanted, yielded, bool_at gg]) (by simp [execOp, go_sem, Act.eval, b35, b36])
   ·intro ac w' hb hp
    have b34 : ac.tmps[34]?.getD undef = .bool true := aw_get (hp ⟨10, .data⟩ (by simp) rfl _ rfl) (by decide)
    have b37 : ac.tmps[37]?.getD undef = .bool true := aw_get (hp ⟨13, .data⟩ (by simp) rfl _ rfl) (by decide)
    exact aw_run (by decide) rfl (by simp [execOp, go_sem, Act.eval, b34, b37])
   ·intro ac w' hb hp
    have b38 : ac.tmps[38]?.getD undef = .bool true := aw_get (hp ⟨14, .data⟩ (by simp) rfl _ rfl) (by decide)
    exact aw_run (by decide) rfl (by simp [execOp, go_sem, Act.eval, b38])
   ·intro ac w' hb hp
    have gg : ac.tmps[39]?.getD undef = .bool true := aw_get (hp ⟨15, .guard⟩ (by simp) rfl _ rfl) (by decide)
    have b4 : ac.tmps[4]?.getD undef = .pointer (some ⟨nb, 0, none⟩) := hb.at 4 (by kernel_rfl)
    have k0 := (HX9.out.below hb.ext).cell 0
    have k1 := (HX9.out.below hb.ext).cell 1
    have k2 := (HX9.out.below hb.ext).cell 2
    exact aw_run (by decide) (by simp [Region.wanted, yielded, bool_at gg]) (by simp [execOp, go_sem, Act.eval, b4, k0, k1, k2]; rfl)
   ·intro ac w' hb hp
    have gg : ac.tmps[39]?.getD undef = .bool true := aw_get (hp ⟨15, .guard⟩ (by simp) rfl _ rfl) (by decide)
    refine step_call (f := 27) (args := #[.int .i64 9]) (by simp [Region.wanted, yielded, bool_at gg]) (by simp [go_sem]) ?_
    exact (rint_any 9 w').mono fun e w9 h9 => ⟨_, h9.1, h9.2, aw_mk (by decide)⟩
   ·intro ac w' hb hp
    have gg : ac.tmps[39]?.getD undef = .bool true := aw_get (hp ⟨15, .guard⟩ (by simp) rfl _ rfl) (by decide)
    have b40 : ac.tmps[40]?.getD undef = .agg #[.int .i64 1, .int .i64 9, .string (ofL [])] := aw_get (hp ⟨16, .data⟩ (by simp) rfl _ rfl) (by decide)
    have b41 : ac.tmps[41]?.getD undef = .agg #[.int .i64 1, .int .i64 9, .string (ofL [])] := aw_get (hp ⟨17, .data⟩ (by simp) rfl _ rfl) (by decide)
    exact aw_run (by decide) (by simp [Region.wanted, yielded, bool_at gg]) (by simp [execOp, go_sem, Act.eval, b40, b41])
   ·intro ac w' hb hp
    have b39 : ac.tmps[39]?.getD undef = .bool true := aw_get (hp ⟨15, .data⟩ (by simp) rfl _ rfl) (by decide)
    have b42 : ac.tmps[42]?.getD undef = .bool true := aw_get (hp ⟨18, .data⟩ (by simp) rfl _ rfl) (by decide)
    exact aw_run (by decide) rfl (by simp [execOp, go_sem, Act.eval, b39, b42])
   ·intro ac w' hb hp
    have b43 : ac.tmps[43]?.getD undef = .bool true := aw_get (hp ⟨19, .data⟩ (by simp) rfl _ rfl) (by decide)
    exact aw_run (by decide) rfl (by simp [execOp, go_sem, Act.eval, b43])
   ·intro ac w' hb hp
    have gg : ac.tmps[44]?.getD undef = .bool true := aw_get (hp ⟨20, .guard⟩ (by simp) rfl _ rfl) (by decide)
    have b6 : ac.tmps[6]?.getD undef = .pointer (some ⟨pb, 0, none⟩) := hb.at 6 (by kernel_rfl)
    have k0 := (HP9.out.below hb.ext).cell 0
    have k1 := (HP9.out.below hb.ext).cell 1
    have k2 := (HP9.out.below hb.ext).cell 2
    exact aw_run (by decide) (by simp [Region.wanted, yielded, bool_at gg]) (by simp [execOp, go_sem, Act.eval, b6, k0, k1, k2])
   ·intro ac w' hb hp
    have gg : ac.tmps[44]?.getD undef = .bool true := aw_get (hp ⟨20, .guard⟩ (by simp) rfl _ rfl) (by decide)
    refine step_call (f := 43) (args := #[.string (ofL [97, 34, 98])]) (by simp [Region.wanted, yielded, bool_at gg]) (by simp [go_sem]; rfl) ?_
    exact (rtext_any [97, 34, 98] w').mono fun e w9 h9 => ⟨_, h9.1, h9.2, aw_mk (by decide)⟩
   ·intro ac w' hb hp
    have gg : ac.tmps[44]?.getD undef = .bool true := aw_get (hp ⟨20, .guard⟩ (by simp) rfl _ rfl) (by decide)
    have b45 : ac.tmps[45]?.getD undef = .agg #[.int .i64 2, .int .i64 0, .string (ofL [97, 34, 98])] := aw_get (hp ⟨21, .data⟩ (by simp) rfl _ rfl) (by decide)
    have b46 : ac.tmps[46]?.getD undef = .agg #[.int .i64 2, .int .i64 0, .string (ofL [97, 34, 98])] := aw_get (hp ⟨22, .data⟩ (by simp) rfl _ rfl) (by decide)
    exact aw_run (by decide) (by simp [Region.wanted, yielded, bool_at gg]) (by simp [execOp, go_sem, Act.eval, b45, b46])
   ·intro ac w' hb hp
    have b44 : ac.tmps[44]?.getD undef = .bool true := aw_get (hp ⟨20, .data⟩ (by simp) rfl _ rfl) (by decide)
    have b47 : ac.tmps[47]?.getD undef = .bool true := aw_get (hp ⟨23, .data⟩ (by simp) rfl _ rfl) (by decide)
    exact aw_run (by decide) rfl (by simp [execOp, go_sem, Act.eval, b44, b47])
   ·intro ac w' hb hp
    have b48 : ac.tmps[48]?.getD undef = .bool true := aw_get (hp ⟨24, .data⟩ (by simp) rfl _ rfl) (by decide)
    exact aw_run (by decide) rfl (by simp [execOp, go_sem, Act.eval, b48])
   ·intro ac w' hb hp
    have gg : ac.tmps[49]?.getD undef = .bool true := aw_get (hp ⟨25, .guard⟩ (by simp) rfl _ rfl) (by decide)
    have b6 : ac.tmps[6]?.getD undef = .pointer (some ⟨pb, 0, none⟩) := hb.at 6 (by kernel_rfl)
    have k0 := (HP9.out.below hb.ext).cell 0
    have k1 := (HP9.out.below hb.ext).cell 1
    have k2 := (HP9.out.below hb.ext).cell 2
    exact aw_run (by decide) (by simp [Region.wanted, yielded, bool_at gg]) (by simp [execOp, go_sem, Act.eval, b6, k0, k1, k2])
   ·intro ac w' hb hp
    have gg : ac.tmps[49]?.getD undef = .bool true := aw_get (hp ⟨25, .guard⟩ (by simp) rfl _ rfl) (by decide)
    have b50 : ac.tmps[50]?.getD undef = .agg #[.int .i64 2, .int .i64 0, .string (ofL [97, 34, 98])] := aw_get (hp ⟨26, .data⟩ (by simp) rfl _ rfl) (by decide)
    refine step_call (f := 28) (args := #[.agg #[.int .i64 2, .int .i64 0, .string (ofL [97, 34, 98])]]) (by simp [Region.wanted, yielded, bool_at gg]) (by simp [go_sem, b50]) ?_
    exact (show_text [97, 34, 98] w' (by decide) (by decide)).mono fun e w9 h9 => ⟨_, h9.1, h9.2, aw_mk (by decide)⟩
   ·intro ac w' hb hp
    have gg : ac.tmps[49]?.getD undef = .bool true := aw_get (hp ⟨25, .guard⟩ (by simp) rfl _ rfl) (by decide)
    have b51 : ac.tmps[51]?.getD undef = .string (ofL (shT [97, 34, 98])) := aw_get (hp ⟨27, .data⟩ (by simp) rfl _ rfl) (by decide)
    exact aw_run (by decide) (by simp [Region.wanted, yielded, bool_at gg]) (by simp [execOp, go_sem, Act.eval, b51]; rw [ofL_toList]; decide)
   ·intro ac w' hb hp
    have b49 : ac.tmps[49]?.getD undef = .bool true := aw_get (hp ⟨25, .data⟩ (by simp) rfl _ rfl) (by decide)
    have b52 : ac.tmps[52]?.getD undef = .bool true := aw_get (hp ⟨28, .data⟩ (by simp) rfl _ rfl) (by decide)
    exact aw_run (by decide) rfl (by simp [execOp, go_sem, Act.eval, b49, b52])
   ·intro ac w' hb hp
    have b53 : ac.tmps[53]?.getD undef = .bool true := aw_get (hp ⟨29, .data⟩ (by simp) rfl _ rfl) (by decide)
    exact aw_run (by decide) rfl (by simp [execOp, go_sem, Act.eval, b53])
   ·intro ac w' hb hp
    have gg : ac.tmps[54]?.getD undef = .bool true := aw_get (hp ⟨30, .guard⟩ (by simp) rfl _ rfl) (by decide)
    have b2 : ac.tmps[2]?.getD undef = .pointer (some ⟨ab, 0, none⟩) := hb.at 2 (by kernel_rfl)
    have k0 := (HA9.out.below hb.ext).cell 0
    have k1 := (HA9.out.below hb.ext).cell 1
    have k2 := (HA9.out.below hb.ext).cell 2
    exact aw_run (by decide) (by simp [Region.wanted, yielded, bool_at gg]) (by simp [execOp, go_sem, Act.eval, b2, k0, k1, k2])
   ·intro ac w' hb hp
    have gg : ac.tmps[54]?.getD undef = .bool true := aw_get (hp ⟨30, .guard⟩ (by simp) rfl _ rfl) (by decide)
    have b55 : ac.tmps[55]?.getD undef = .agg #[.int .i64 1, .int .i64 (-3), .string (ofL [])] := aw_get (hp ⟨31, .data⟩ (by simp) rfl _ rfl) (by decide)
    exact aw_new (by decide) (by simp [Region.wanted, yielded, bool_at gg]) (by simp [execOp, go_sem, Act.eval, b55])
   ·intro ac w' hb hp
    have gg : ac.tmps[54]?.getD undef = .bool true := aw_get (hp ⟨30, .guard⟩ (by simp) rfl _ rfl) (by decide)
    have b2 : ac.tmps[2]?.getD undef = .pointer (some ⟨ab, 0, none⟩) := hb.at 2 (by kernel_rfl)
    have k0 := (HA9.out.below hb.ext).cell 0
    have k1 := (HA9.out.below hb.ext).cell 1
    have k2 := (HA9.out.below hb.ext).cell 2
    exact aw_run (by decide) (by simp [Region.wanted, yielded, bool_at gg]) (by simp [execOp, go_sem, Act.eval, b2, k0, k1, k2])
   ·intro ac w' hb hp
    have gg : ac.tmps[54]?.getD undef = .bool true := aw_get (hp ⟨30, .guard⟩ (by simp) rfl _ rfl) (by decide)
    have b57 : ac.tmps[57]?.getD undef = .agg #[.int .i64 1, .int .i64 (-3), .string (ofL [])] := aw_get (hp ⟨33, .data⟩ (by simp) rfl _ rfl) (by decide)
    exact aw_new (by decide) (by simp [Region.wanted, yielded, bool_at gg]) (by simp [execOp, go_sem, Act.eval, b57])
   ·intro ac w' hb hp
    have gg : ac.tmps[54]?.getD undef = .bool true := aw_get (hp ⟨30, .guard⟩ (by simp) rfl _ rfl) (by decide)
    obtain ⟨g1, b56, hx1⟩ := aw_sl (t := 56) (hp ⟨32, .data⟩ (by simp) rfl _ rfl) (.inl rfl)
    obtain ⟨g2, b58, hx2⟩ := aw_sl (t := 58) (hp ⟨34, .data⟩ (by simp) rfl _ rfl) (.inr rfl)
    refine step_call (f := 37) (args := #[.slice (some ⟨g1, 0, none⟩) 1 1, .slice (some ⟨g2, 0, none⟩) 1 1]) (by simp [Region.wanted, yielded, bool_at gg]) (by simp [go_sem, b56, b58]) ?_
    exact (same_one g1 g2 1 (-3) [] w' hx1 hx2).mono fun e w9 h9 => ⟨_, h9.1, h9.2, aw_mk (by decide)⟩
   ·intro ac w' hb hp
    have b54 : ac.tmps[54]?.getD undef = .bool true := aw_get (hp ⟨30, .data⟩ (by simp) rfl _ rfl) (by decide)
    have b59 : ac.tmps[59]?.getD undef = .bool true := aw_get (hp ⟨35, .data⟩ (by simp) rfl _ rfl) (by decide)
    exact aw_run (by decide) rfl (by simp [execOp, go_sem, Act.eval, b54, b59])
   ·intro ac w' hb hp
    have b60 : ac.tmps[60]?.getD undef = .bool true := aw_get (hp ⟨36, .data⟩ (by simp) rfl _ rfl) (by decide)
    exact aw_run (by decide) rfl (by simp [execOp, go_sem, Act.eval, b60])
  ·intro vz w9 hext hall
   have HE := Lib.hid (below_ext2 HB9.out hext)
   have e37 : vz 37 = .bool true := by have := hall 37 (by decide); unfold AwP at this; rwa [if_neg (by decide)] at this
   clear hext hall
   simp only [putAll, Act.put, List.setIfInBounds_toArray, List.set_cons_zero, List.set_cons_succ, Nat.zero_add, Nat.reduceAdd, e37]
   go_wp2_with fail
   go_ret
   exact ⟨rfl, HE.out⟩
end Go.Proofs.YtnainhpcmoekcaaGreatDoor
