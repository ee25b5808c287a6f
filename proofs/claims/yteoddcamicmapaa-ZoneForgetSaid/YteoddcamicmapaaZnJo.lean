/- Layer 13: empty and Join (tools/gen_zj.py). -/
import Derived.Test.YteoddcamicmapaaZnWi
namespace Go.Proofs.Yteoddcamicmapaa
open Go.RowKit

/-- The bounds of a zone without assignments. -/
def emL (n : Nat) : List Int := (flat n fuB).set 0 (-20001)
theorem emL_len (n : Nat) : (emL n).length = n * n := by unfold emL; rw [List.length_set, flat_len]
set_option maxRecDepth 20000 in
set_option maxHeartbeats 400000 in
theorem empty_any (m : Nat) (hm : m ≤ 24) (w : World) : Calls Try.prog 55 #[.int .i64 (m : Int)] w fun e w' => ∃ v, e = .returned (.agg #[.int .i64 (m : Int), v]) ∧ Own w' w.heap.size v ((m + 1) * (m + 1)) (emL (m + 1)) ∧ Below w.heap.size w w' := by
  have HX := Lib.hid (Bx.new w 29 #[.int .i64 0, .slice none 0 0])
  go_enter Try.func55, Try.ntmps55
  go_wp2_with fail
  refine (zoneOf_any m hm _ _ _ fuB _ ent_widest (fn_widest _ _ (by omega))).mono ?_; rintro e w2 ⟨v, rfl, ho, hb⟩
  have HO := Lib.hid (show Own w2 _ _ _ _ from ho)
  obtain ⟨g, cap, rfl, hg1, hg2, -⟩ := own_shape HO.out (Nat.mul_le_mul (by omega : 1 ≤ m + 1) (by omega : 1 ≤ m + 1))
  have hg1' : w.heap.size < g := by simp at hg1; omega
  have hx2 := HX.out.below hb
  have HX2 := Lib.hid hx2
  have HB2 := Lib.hid ((al1 w (.cells #[.int .i64 0, .slice none 0 0] 29)).trans (hb.mono (by simp)))
  have HO2 := Lib.hid (show Own (w2.alloc (.cells #[.int .i64 (m : Int), .slice (some ⟨g, 0, none⟩) ((m + 1) * (m + 1)) cap] 29)) _ _ _ _ from HO.out.keep (al1 w2 _))
  have hpp : (0 : Int) < ((m : Int) + 1) * ((m : Int) + 1) := Int.mul_pos (by omega) (by omega)
  have hq := own_at HO2.out 0 (by rw [flat_len]; exact Nat.mul_pos (by omega) (by omega))
  have hf := HO2.out.frozenAt 0
  have hp2 : ¬ (((m : Int) + 1) * ((m : Int) + 1) ≤ 0) := by omega
  clear ho hb HX hx2
  have hgz : g ≠ w2.heap.size := by omega
  have hx3 := (HX2.out.other (c := g) (i := 0) (u := .int .i64 (-20001)) (by omega)).alloc (.cells #[.int .i64 (m : Int), .slice (some ⟨g, 0, none⟩) ((m + 1) * (m + 1)) cap] 29)
  have hz3 := Bx.new (w2.setCell ⟨g, 0, none⟩ (.int .i64 (-20001))) 29 #[.int .i64 (m : Int), .slice (some ⟨g, 0, none⟩) ((m + 1) * (m + 1)) cap]
  rw [size_set] at hz3
  obtain ⟨x0, x1⟩ := hx3.k2
  obtain ⟨f0, f1⟩ := hx3.f2
  obtain ⟨y0, y1⟩ := hz3.k2
  obtain ⟨z0, z1⟩ := (Bx.new w2 29 #[.int .i64 (m : Int), .slice (some ⟨g, 0, none⟩) ((m + 1) * (m + 1)) cap]).k2
  have HX3 := Lib.hid hx3
  have HO3 := Lib.hid (show Own ((w2.setCell ⟨g, 0, none⟩ (.int .i64 (-20001))).alloc (.cells #[.int .i64 (m : Int), .slice (some ⟨g, 0, none⟩) ((m + 1) * (m + 1)) cap] 29)) _ _ _ (emL (m + 1)) from Own.keep (show Own (w2.setCell ⟨g, 0, none⟩ (.int .i64 (-20001))) _ _ _ (emL (m + 1)) from own_put HO.out 0 (-20001)) (al1 _ _))
  have HB3 := Lib.hid ((HB2.out.setCell (p := ⟨g, 0, none⟩) (by show w.heap.size ≤ g; omega) (.int .i64 (-20001))).alloc (by have := HB2.out.size; rw [size_set]; exact this) (.cells #[.int .i64 (m : Int), .slice (some ⟨g, 0, none⟩) ((m + 1) * (m + 1)) cap] 29))
  clear hx3 hz3 HO
  go_wp2_with fail
  refine bodyPost_ret (v := .agg #[.int .i64 (m : Int), .slice (some ⟨g, 0, none⟩) ((m + 1) * (m + 1)) cap]) (bx_ret ((HX3.out.set 0 _).set 1 _) Try.results55 _ rfl Try.underlying29 rfl (by kernel_rfl)) rfl ?_
  have hne : (Value.slice (some ⟨g, 0, none⟩) ((m + 1) * (m + 1)) cap).ownBlock ≠ some w.heap.size := by
    intro e
    have e2 : g = w.heap.size := by simpa [Value.ownBlock] using e
    omega
  exact ⟨_, rfl, ((HO3.out.other hne).other hne).mono (by simp), (HB3.out.setCell (p := ⟨w.heap.size, 0, none⟩) (Nat.le_refl _) _).setCell (p := ⟨w.heap.size, 1, none⟩) (Nat.le_refl _) _⟩
/-- What Join makes of two bounds. -/
def jnB (n : Nat) (c d : List Int) (i j : Nat) : Int := max (gt n c i j) (gt n d i j)
theorem ent_join1 : Ent 54 := fun args w => enters_of Try.func54 (by kernel_rfl) rfl args w
set_option maxRecDepth 20000 in
set_option maxHeartbeats 400000 in
theorem join1_any (m i j cb ab : Nat) (u v : Value) (a c : List Int) (w : World) (h1 : Sl iv w u c) (h2 : Sl iv w v a) (hc : Bx w cb 29 #[.int .i64 (m : Int), u]) (ha : Bx w ab 29 #[.int .i64 (m : Int), v]) (hm : m ≤ 24) (hl1 : c.length = (m + 1) * (m + 1)) (hl2 : a.length = (m + 1) * (m + 1)) (hi : i ≤ m) (hj : j ≤ m) :
    Calls Try.prog 54 #[.int .i64 (i : Int), .int .i64 (j : Int), .pointer (some ⟨cb, 0, none⟩), .pointer (some ⟨ab, 0, none⟩)] w (Tells w (.int .i64 (jnB (m + 1) c a i j))) := by
  have HC := Lib.hid hc
  have HA := Lib.hid ha
  have HB1 := Lib.hid (fun w' (hw : Below w.heap.size w w') => bound_any m i j u c w' (h1.below hw) hm hl1 hi hj)
  have HB2 := Lib.hid (fun w' (hw : Below w.heap.size w w') => bound_any m i j v a w' (h2.below hw) hm hl2 hi hj)
  obtain ⟨R, hR⟩ : ∃ R, R = jnB (m + 1) c a i j := ⟨_, rfl⟩
  rw [← hR]
  have HW := Lib.hid (show R = max (gt (m + 1) c i j) (gt (m + 1) a i j) from hR)
  clear hR
  generalize gt (m + 1) c i j = x at *
  generalize gt (m + 1) a i j = y at *
  clear h1 h2 hc ha hl1 hl2
  go_enter Try.func54, Try.ntmps54
  go_wp2_with fail
  refine region_phi (n := 16) (Wd [(false, .agg #[.int .i64 (m : Int), u]),
      (false, .int .i64 (i : Int)),
      (false, .int .i64 (j : Int)),
      (false, .int .i64 x),
      (false, .agg #[.int .i64 (m : Int), v]),
      (false, .int .i64 (i : Int)),
      (false, .int .i64 (j : Int)),
      (false, .int .i64 y),
      (false, .int .i64 (max x y)),
      (false, .int .i64 (max x y))]) (by kernel_rfl) (by kernel_rfl) rfl (fun _ _ _ _ h _ => h) (allOps_spec ?_) ?_
  · refine ⟨?_, ?_, ?_, ?_, ?_, ?_, ?_, ?_, ?_, ?_, trivial⟩
    · intro a w' hb hp
      have b2 : a.tmps[2]?.getD undef = .pointer (some ⟨cb, 0, none⟩) := hb.at 2 (by kernel_rfl)
      have q0 := (HC.out.below hb.ext).cell 0
      have q1 := (HC.out.below hb.ext).cell 1
      exact wd_run rfl rfl (by simp [execOp, go_sem, Act.eval, b2, q0, q1])
    · intro a w' hb hp
      have b0 : a.tmps[0]?.getD undef = .int .i64 (i : Int) := hb.at 0 (by kernel_rfl)
      exact wd_run rfl rfl (by simp [execOp, go_sem, Act.eval, b0])
    · intro a w' hb hp
      have b1 : a.tmps[1]?.getD undef = .int .i64 (j : Int) := hb.at 1 (by kernel_rfl)
      exact wd_run rfl rfl (by simp [execOp, go_sem, Act.eval, b1])
    · intro a w' hb hp
      refine step_call (f := 49) (args := #[.agg #[.int .i64 (m : Int), u], .int .i64 (i : Int), .int .i64 (j : Int)]) rfl (by simp [go_sem, wd_get (hp ⟨0, .data⟩ (by simp) rfl _ rfl) rfl rfl, wd_get (hp ⟨1, .data⟩ (by simp) rfl _ rfl) rfl rfl, wd_get (hp ⟨2, .data⟩ (by simp) rfl _ rfl) rfl rfl]) ?_
      exact (HB1.out _ hb.ext).mono fun e w9 h9 => ⟨_, h9.1, h9.2, wd_mk rfl fun _ => rfl⟩
    · intro a w' hb hp
      have b3 : a.tmps[3]?.getD undef = .pointer (some ⟨ab, 0, none⟩) := hb.at 3 (by kernel_rfl)
      have q0 := (HA.out.below hb.ext).cell 0
      have q1 := (HA.out.below hb.ext).cell 1
      exact wd_run rfl rfl (by simp [execOp, go_sem, Act.eval, b3, q0, q1])
    · intro a w' hb hp
      have b0 : a.tmps[0]?.getD undef = .int .i64 (i : Int) := hb.at 0 (by kernel_rfl)
      exact wd_run rfl rfl (by simp [execOp, go_sem, Act.eval, b0])
    · intro a w' hb hp
      have b1 : a.tmps[1]?.getD undef = .int .i64 (j : Int) := hb.at 1 (by kernel_rfl)
      exact wd_run rfl rfl (by simp [execOp, go_sem, Act.eval, b1])
    · intro a w' hb hp
      refine step_call (f := 49) (args := #[.agg #[.int .i64 (m : Int), v], .int .i64 (i : Int), .int .i64 (j : Int)]) rfl (by simp [go_sem, wd_get (hp ⟨4, .data⟩ (by simp) rfl _ rfl) rfl rfl, wd_get (hp ⟨5, .data⟩ (by simp) rfl _ rfl) rfl rfl, wd_get (hp ⟨6, .data⟩ (by simp) rfl _ rfl) rfl rfl]) ?_
      exact (HB2.out _ hb.ext).mono fun e w9 h9 => ⟨_, h9.1, h9.2, wd_mk rfl fun _ => rfl⟩
    · intro a w' hb hp
      have h10 := wd_get (hp ⟨3, .data⟩ (by simp) rfl _ rfl) rfl rfl
      have h14 := wd_get (hp ⟨7, .data⟩ (by simp) rfl _ rfl) rfl rfl
      exact wd_run rfl rfl (by simp [go_sem, Act.eval, wd_get (hp ⟨3, .data⟩ (by simp) rfl _ rfl) rfl rfl, wd_get (hp ⟨7, .data⟩ (by simp) rfl _ rfl) rfl rfl]; split <;> omega)
    · exact fun a w' hb hp => wd_run rfl rfl (by simp [execOp, go_sem, Act.eval, wd_get (hp ⟨8, .data⟩ (by simp) rfl _ rfl) rfl rfl])
  · intro vs w2 hext hall
    have HEXT := Lib.hid hext
    have e9 : vs 9 = .int .i64 (max x y) := hall 9 (by decide) rfl
    clear hext hall
    simp only [putAll, Act.put, List.setIfInBounds_toArray, List.set_cons_zero, List.set_cons_succ, Nat.zero_add, Nat.reduceAdd, e9]
    clear e9
    go_wp2_with fail
    go_ret
    exact ⟨by rw [HW.out]; rfl, HEXT.out⟩
theorem fn_join1 (m cb ab : Nat) (u v : Value) (a c : List Int) (w0 : World) (h1 : Sl iv w0 u c) (h2 : Sl iv w0 v a) (hc : Bx w0 cb 29 #[.int .i64 (m : Int), u]) (ha : Bx w0 ab 29 #[.int .i64 (m : Int), v]) (hm : m ≤ 24) (hl1 : c.length = (m + 1) * (m + 1)) (hl2 : a.length = (m + 1) * (m + 1)) :
    FnAt 54 #[] #[.pointer (some ⟨cb, 0, none⟩), .pointer (some ⟨ab, 0, none⟩)] w0 (m + 1) (jnB (m + 1) c a) := fun i j hi hj w hw => by
  have e : (#[] : Array Value) ++ #[.int .i64 (i : Int), .int .i64 (j : Int)] ++ #[.pointer (some ⟨cb, 0, none⟩), .pointer (some ⟨ab, 0, none⟩)] = #[.int .i64 (i : Int), .int .i64 (j : Int), .pointer (some ⟨cb, 0, none⟩), .pointer (some ⟨ab, 0, none⟩)] := by simp
  rw [e]
  exact join1_any m i j cb ab u v a c w (h1.below hw) (h2.below hw) (hc.below hw) (ha.below hw) hm hl1 hl2 (by omega) (by omega)
/-- Join. -/
noncomputable def joinZ (N : Int) (a : List Int) (M : Int) (b : List Int) : (Int × List Int) × Value :=
  if aliB N a M b = true then
    match closeR N a, closeR M b with
    | some c, some d => ((N, flat (N + 1).toNat (jnB (N + 1).toNat c d)), .int .i64 0)
    | some c, none => ((N, c), .int .i64 0)
    | none, some d => ((M, d), .int .i64 0)
    | none, none => ((N, emL (N + 1).toNat), .int .i64 0)
  else ((0, []), .int .i64 1)
theorem joinZ_bad {N : Int} {a : List Int} {M : Int} {b : List Int} (h : aliB N a M b = false) : joinZ N a M b = ((0, []), .int .i64 1) := by unfold joinZ; rw [h]; rfl
theorem joinZ_0 {m : Nat} {a b : List Int} (h : aliB (m : Int) a (m : Int) b = true) (h1 : closeR (m : Int) a = none) (h2 : closeR (m : Int) b = none) : joinZ (m : Int) a (m : Int) b = (((m : Int), emL (m + 1)), .int .i64 0) := by
  unfold joinZ; rw [if_pos h, h1, h2, show ((m : Int) + 1).toNat = m + 1 by omega]
theorem joinZ_1 {m : Nat} {a b c : List Int} (h : aliB (m : Int) a (m : Int) b = true) (h1 : closeR (m : Int) a = some c) (h2 : closeR (m : Int) b = none) : joinZ (m : Int) a (m : Int) b = (((m : Int), c), .int .i64 0) := by
  unfold joinZ; rw [if_pos h, h1, h2]
theorem joinZ_2 {m : Nat} {a b d : List Int} (h : aliB (m : Int) a (m : Int) b = true) (h1 : closeR (m : Int) a = none) (h2 : closeR (m : Int) b = some d) : joinZ (m : Int) a (m : Int) b = (((m : Int), d), .int .i64 0) := by
  unfold joinZ; rw [if_pos h, h1, h2]
theorem joinZ_3 {m : Nat} {a b c d : List Int} (h : aliB (m : Int) a (m : Int) b = true) (h1 : closeR (m : Int) a = some c) (h2 : closeR (m : Int) b = some d) : joinZ (m : Int) a (m : Int) b = (((m : Int), flat (m + 1) (jnB (m + 1) c d)), .int .i64 0) := by
  unfold joinZ; rw [if_pos h, h1, h2, show ((m : Int) + 1).toNat = m + 1 by omega]
set_option maxRecDepth 20000 in
set_option maxHeartbeats 1000000 in
theorem join_any (N M : Int) (v u : Value) (a b : List Int) (w : World) (h : Sl iv w v a) (hl : a.length ≤ 9223372036854775807) (h2 : Sl iv w u b) (hl2 : b.length ≤ 9223372036854775807) :
    Calls Try.prog 31 #[.agg #[.int .i64 N, v], .agg #[.int .i64 M, u]] w (ZP w (joinZ N a M b)) := by
  obtain ⟨A, c, rfl⟩ := h.shape
  obtain ⟨A2, c2, rfl⟩ := h2.shape
  have H := Lib.hid h
  have H2 := Lib.hid h2
  clear h h2
  cases hp : aliB N a M b with
  | false =>
    have HR := Lib.hid (joinZ_bad hp)
    have Hp := Lib.hid hp
    clear hp
    go_enter Try.func31, Try.ntmps31
    go_wp2_with fail
    refine (alike_any N M _ _ a b _ (H.out.below (al3 w _ _ _)) hl (H2.out.below (al3 w _ _ _)) hl2).mono ?_; rintro e w1 ⟨rfl, hb⟩; rw [Hp.out]
    obtain ⟨-, -, HY, HB⟩ := three_boxes rfl rfl rfl hb
    obtain ⟨y0, y1⟩ := HY.out.k2
    obtain ⟨f0, f1⟩ := HY.out.f2
    clear hb
    go_wp2_with fail
    refine bodyPost_ret (v := .tuple #[.agg #[.int .i64 0, .slice none 0 0], .int .i64 1]) (bx_ret2 ((HY.out.set 0 _).set 1 _) Try.results31 _ rfl Try.underlying29 rfl (by kernel_rfl)) rfl ?_
    exact zp_zero HR.out (by omega) HB.out
  | true =>
    obtain ⟨m, rfl, rfl, hm, hz1, hz2⟩ := aliB_nat hp
    have HP := Lib.hid hp
    have HZ1 := Lib.hid hz1
    have HZ2 := Lib.hid hz2
    clear hp hz1 hz2
    go_enter Try.func31, Try.ntmps31
    go_wp2_with fail
    refine (alike_any m m _ _ a b _ (H.out.below (al3 w _ _ _)) hl (H2.out.below (al3 w _ _ _)) hl2).mono ?_; rintro e w1 ⟨rfl, hb⟩; rw [HP.out]
    obtain ⟨HX, HD, HY, HB⟩ := three_boxes rfl rfl rfl hb
    obtain ⟨x0, x1⟩ := HX.out.k2
    clear hb
    go_wp2_with fail
    refine (close_any m _ a _ (H.out.below HB.out) hl).mono ?_; rintro e w2 ⟨v, rfl, ho, hb⟩
    obtain ⟨A3, c3, rfl⟩ := own_shapeG ho
    have HB2 := Lib.hid (HB.out.trans (hb.mono HB.out.size))
    have HX2 := Lib.hid (HX.out.below hb)
    have HD2 := Lib.hid (HD.out.below hb)
    have HY2 := Lib.hid (HY.out.below hb)
    have HO2 := Lib.hid ho
    have HS0 := Lib.hid HY.out.lt
    clear hb x0 x1 HB HX HD HY ho
    obtain ⟨r1, hr1⟩ : ∃ r1, r1 = closeZ (m : Int) a := ⟨_, rfl⟩
    rw [← hr1] at HO2 ⊢
    have HR1 := Lib.hid hr1
    clear hr1
    obtain ⟨⟨n1, l1⟩, t1⟩ := r1
    dsimp only at HO2 ⊢
    obtain ⟨b1, rfl⟩ : ∃ b1, t1 = .bool b1 := by
      have h := HR1.out
      unfold closeZ at h
      split at h <;> cases h <;> exact ⟨_, rfl⟩
    have HX3 := Lib.hid (HX2.out.alloc (.cells #[.int .i64 n1, .slice A3 l1.length c3] 29))
    have HD3 := Lib.hid (HD2.out.alloc (.cells #[.int .i64 n1, .slice A3 l1.length c3] 29))
    have HY3 := Lib.hid (HY2.out.alloc (.cells #[.int .i64 n1, .slice A3 l1.length c3] 29))
    have HF3 := Lib.hid (Bx.new w2 29 #[.int .i64 n1, .slice A3 l1.length c3])
    have HO3 := Lib.hid (show Own (w2.alloc (.cells #[.int .i64 n1, .slice A3 l1.length c3] 29)) _ _ _ _ from Own.keep HO2.out (al1 w2 _))
    have HB3 := Lib.hid (HB2.out.alloc HB2.out.size (.cells #[.int .i64 n1, .slice A3 l1.length c3] 29))
    clear HX2 HD2 HY2 HO2 HB2
    obtain ⟨d0, d1⟩ := HD3.out.k2
    go_wp2_with fail
    refine (close_any m _ b _ (H2.out.below HB3.out) hl2).mono ?_; rintro e w4 ⟨v, rfl, ho, hb⟩
    obtain ⟨A5, c5, rfl⟩ := own_shapeG ho
    have HB4 := Lib.hid (HB3.out.trans (hb.mono HB3.out.size))
    have HX4 := Lib.hid (HX3.out.below hb)
    have HY4 := Lib.hid (HY3.out.below hb)
    have HF4 := Lib.hid (HF3.out.below hb)
    have HO4 := Lib.hid (show Own w4 _ _ _ _ from Own.keep HO3.out hb)
    have HQ4 := Lib.hid ho
    have HS4 := Lib.hid HY3.out.lt
    clear hb d0 d1 HB3 HX3 HY3 HD3 HF3 HO3 ho
    obtain ⟨r2, hr2⟩ : ∃ r2, r2 = closeZ (m : Int) b := ⟨_, rfl⟩
    rw [← hr2] at HQ4 ⊢
    have HR2 := Lib.hid hr2
    clear hr2
    obtain ⟨⟨n2, l2⟩, t2⟩ := r2
    dsimp only at HQ4 ⊢
    obtain ⟨b2, rfl⟩ : ∃ b2, t2 = .bool b2 := by
      have h := HR2.out
      unfold closeZ at h
      split at h <;> cases h <;> exact ⟨_, rfl⟩
    have HX5 := Lib.hid (HX4.out.alloc (.cells #[.int .i64 n2, .slice A5 l2.length c5] 29))
    have HY5 := Lib.hid (HY4.out.alloc (.cells #[.int .i64 n2, .slice A5 l2.length c5] 29))
    have HF5 := Lib.hid (HF4.out.alloc (.cells #[.int .i64 n2, .slice A5 l2.length c5] 29))
    have HG5 := Lib.hid (Bx.new w4 29 #[.int .i64 n2, .slice A5 l2.length c5])
    have HO5 := Lib.hid (show Own (w4.alloc (.cells #[.int .i64 n2, .slice A5 l2.length c5] 29)) _ _ _ _ from Own.keep HO4.out (al1 w4 _))
    have HQ5 := Lib.hid (show Own (w4.alloc (.cells #[.int .i64 n2, .slice A5 l2.length c5] 29)) _ _ _ _ from Own.keep HQ4.out (al1 w4 _))
    have HB5 := Lib.hid (HB4.out.alloc HB4.out.size (.cells #[.int .i64 n2, .slice A5 l2.length c5] 29))
    have HS5 := Lib.hid (show w.heap.size + 2 < (w4.alloc (.cells #[.int .i64 n2, .slice A5 l2.length c5] 29)).heap.size from HY5.out.lt)
    clear HX4 HY4 HF4 HO4 HQ4 HB4
    cases hca : closeR (m : Int) a with
    | none =>
      have h1 := HR1.out
      rw [closeZ_none hca] at h1
      simp only [Prod.mk.injEq, Value.bool.injEq] at h1
      obtain ⟨⟨rfl, rfl⟩, rfl⟩ := h1
      cases hcb : closeR (m : Int) b with
      | none =>
        have h2 := HR2.out
        rw [closeZ_none hcb] at h2
        simp only [Prod.mk.injEq, Value.bool.injEq] at h2
        obtain ⟨⟨rfl, rfl⟩, rfl⟩ := h2
        have HR := Lib.hid (joinZ_0 HP.out hca hcb)
        clear hca hcb HR1 HR2
        simp only [List.length_nil] at HX5 HY5 HF5 HG5 HO5 HQ5 HB5 HS5
        generalize hw5 : w4.alloc (.cells #[.int .i64 0, .slice A5 0 c5] 29) = w5 at *
        obtain ⟨x0, x1⟩ := HX5.out.k2
        go_wp2_with (rw [hw5])
        refine (empty_any m hm _).mono ?_; rintro e w6 ⟨v, rfl, ho, hb⟩
        obtain ⟨A6, c6, rfl⟩ := own_shapeG ho
        have HO6 := Lib.hid ho
        have HY6 := Lib.hid (HY5.out.below hb)
        have HB6 := Lib.hid (HB5.out.trans (hb.mono HB5.out.size))
        obtain ⟨y0, y1⟩ := HY6.out.k2
        obtain ⟨f0, f1⟩ := HY6.out.f2
        clear ho hb x0 x1
        go_wp2_with fail
        refine bodyPost_ret (v := .tuple #[.agg #[.int .i64 (m : Int), .slice A6 ((m + 1) * (m + 1)) c6], .int .i64 0]) (bx_ret2 ((HY6.out.set 0 _).set 1 _) Try.results31 _ rfl Try.underlying29 rfl (by kernel_rfl)) rfl ?_
        exact zp_fin HR.out (by omega) HB6.out HB5.out.size HO6.out (HO6.out.lt (.inl HS5.out))
      | some d =>
        have h2 := HR2.out
        rw [closeZ_some hcb] at h2
        simp only [Prod.mk.injEq, Value.bool.injEq] at h2
        obtain ⟨⟨rfl, rfl⟩, rfl⟩ := h2
        have HR := Lib.hid (joinZ_2 HP.out hca hcb)
        clear hca hcb HR1 HR2
        generalize hw5 : w4.alloc (.cells #[.int .i64 (m : Int), .slice A5 l2.length c5] 29) = w5 at *
        obtain ⟨x0, x1⟩ := HG5.out.k2
        obtain ⟨y0, y1⟩ := HY5.out.k2
        obtain ⟨f0, f1⟩ := HY5.out.f2
        go_wp2_with (rw [hw5])
        refine bodyPost_ret (v := .tuple #[.agg #[.int .i64 (m : Int), .slice A5 l2.length c5], .int .i64 0]) (bx_ret2 ((HY5.out.set 0 _).set 1 _) Try.results31 _ rfl Try.underlying29 rfl (by kernel_rfl)) rfl ?_
        exact zp_fin HR.out (by omega) HB5.out (by have := HS4.out; omega) HQ5.out (HQ5.out.lt (.inl HS4.out))
    | some cl =>
      have h1 := HR1.out
      rw [closeZ_some hca] at h1
      simp only [Prod.mk.injEq, Value.bool.injEq] at h1
      obtain ⟨⟨rfl, rfl⟩, rfl⟩ := h1
      cases hcb : closeR (m : Int) b with
      | none =>
        have h2 := HR2.out
        rw [closeZ_none hcb] at h2
        simp only [Prod.mk.injEq, Value.bool.injEq] at h2
        obtain ⟨⟨rfl, rfl⟩, rfl⟩ := h2
        have HR := Lib.hid (joinZ_1 HP.out hca hcb)
        clear hca hcb HR1 HR2
        simp only [List.length_nil] at HX5 HY5 HF5 HG5 HO5 HQ5 HB5 HS5
        generalize hw5 : w4.alloc (.cells #[.int .i64 0, .slice A5 0 c5] 29) = w5 at *
        obtain ⟨x0, x1⟩ := HF5.out.k2
        obtain ⟨y0, y1⟩ := HY5.out.k2
        obtain ⟨f0, f1⟩ := HY5.out.f2
        go_wp2_with (rw [hw5])
        refine bodyPost_ret (v := .tuple #[.agg #[.int .i64 (m : Int), .slice A3 l1.length c3], .int .i64 0]) (bx_ret2 ((HY5.out.set 0 _).set 1 _) Try.results31 _ rfl Try.underlying29 rfl (by kernel_rfl)) rfl ?_
        exact zp_fin HR.out (by omega) HB5.out (by have := HS0.out; omega) HO5.out (HO5.out.lt (.inl HS0.out))
      | some d =>
        have h2 := HR2.out
        rw [closeZ_some hcb] at h2
        simp only [Prod.mk.injEq, Value.bool.injEq] at h2
        obtain ⟨⟨rfl, rfl⟩, rfl⟩ := h2
        have HR := Lib.hid (joinZ_3 HP.out hca hcb)
        have HCL := Lib.hid (cls_len HZ1.out ((closeR_nat HZ1.out).symm.trans hca))
        have HDL := Lib.hid (cls_len HZ2.out ((closeR_nat HZ2.out).symm.trans hcb))
        clear hca hcb HR1 HR2
        generalize hw5 : w4.alloc (.cells #[.int .i64 (m : Int), .slice A5 l2.length c5] 29) = w5 at *
        obtain ⟨x0, x1⟩ := HX5.out.k2
        go_wp2_with (rw [hw5])
        refine (zoneOf_any m hm _ _ _ (jnB (m + 1) l1 l2) _ ent_join1 (fn_join1 m _ _ _ _ l2 l1 _ (Own.sl HO5.out) (Own.sl HQ5.out) HF5.out HG5.out hm HCL.out HDL.out)).mono ?_; rintro e w6 ⟨v, rfl, ho, hb⟩
        obtain ⟨A6, c6, rfl⟩ := own_shapeG ho
        have HO6 := Lib.hid (show Own w6 _ _ _ _ from ho)
        have HY6 := Lib.hid (HY5.out.below hb)
        have HB6 := Lib.hid (HB5.out.trans (hb.mono HB5.out.size))
        obtain ⟨y0, y1⟩ := HY6.out.k2
        obtain ⟨f0, f1⟩ := HY6.out.f2
        clear ho hb x0 x1
        go_wp2_with fail
        refine bodyPost_ret (v := .tuple #[.agg #[.int .i64 (m : Int), .slice A6 ((m + 1) * (m + 1)) c6], .int .i64 0]) (bx_ret2 ((HY6.out.set 0 _).set 1 _) Try.results31 _ rfl Try.underlying29 rfl (by kernel_rfl)) rfl ?_
        exact zp_fin HR.out (by omega) HB6.out HB5.out.size HO6.out (HO6.out.lt (.inl HS5.out))
end Go.Proofs.Yteoddcamicmapaa
