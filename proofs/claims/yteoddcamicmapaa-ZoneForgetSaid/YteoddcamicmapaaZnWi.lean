/- Layer 13: Widen (tools/gen_zw.py). -/
import Derived.Test.YteoddcamicmapaaZnAd
namespace Go.Proofs.Yteoddcamicmapaa
open Go.RowKit

/-- Between the operations of 'return Zone{N: a.N, B: slices.Clone(a.B)}, api.OK'. -/
structure WiI (w0 : World) (zb rb : Nat) (N u : Value) (n : Nat) (l : List Int) (L : Nat → Bool) (vs : Nat → Value) (w : World) : Prop where
  q0 : L 0 = true → vs 0 = .pointer (some ⟨zb, 0, none⟩)
  q1 : L 1 = true → vs 1 = N
  q2 : L 2 = true → vs 2 = .pointer (some ⟨zb, 1, none⟩)
  q3 : L 3 = true → vs 3 = u
  q4 : L 4 = true → ∃ A c, vs 4 = .slice A n c ∧ Own w w0.heap.size (vs 4) n l
  q5 : L 5 = true → L 4 = true ∧ vs 5 = .agg #[N, vs 4]
  q7 : L 7 = true → vs 7 = .int .i64 0
  rbx : Bx w rb 29 (if L 6 = true then #[N, vs 4] else #[.int .i64 0, .slice none 0 0])
  lt : rb < w0.heap.size
  bel : Only rb w0 w
section
variable {w0 w w' : World} {zb rb : Nat} {N u : Value} {n : Nat} {l : List Int} {L : Nat → Bool} {vs : Nat → Value}
theorem WiI.start (h : Bx w0 rb 29 #[.int .i64 0, .slice none 0 0]) : WiI w0 zb rb N u n l (fun _ => false) vs w0.drew := ⟨nopeB rfl, nopeB rfl, nopeB rfl, nopeB rfl, nopeB rfl, nopeB rfl, nopeB rfl, h, h.lt, Only.of (Below.refl _ _).drew⟩
theorem WiI.t0 (hI : WiI w0 zb rb N u n l L vs w) : WiI w0 zb rb N u n l (updB L 0) (updV vs 0 (.pointer (some ⟨zb, 0, none⟩))) w := ⟨fun _ => rfl, hI.q1, hI.q2, hI.q3, hI.q4, hI.q5, hI.q7, hI.rbx, hI.lt, hI.bel⟩
theorem WiI.t1 (hI : WiI w0 zb rb N u n l L vs w) : WiI w0 zb rb N u n l (updB L 1) (updV vs 1 N) w := ⟨hI.q0, fun _ => rfl, hI.q2, hI.q3, hI.q4, hI.q5, hI.q7, hI.rbx, hI.lt, hI.bel⟩
theorem WiI.t2 (hI : WiI w0 zb rb N u n l L vs w) : WiI w0 zb rb N u n l (updB L 2) (updV vs 2 (.pointer (some ⟨zb, 1, none⟩))) w := ⟨hI.q0, hI.q1, fun _ => rfl, hI.q3, hI.q4, hI.q5, hI.q7, hI.rbx, hI.lt, hI.bel⟩
theorem WiI.t3 (hI : WiI w0 zb rb N u n l L vs w) : WiI w0 zb rb N u n l (updB L 3) (updV vs 3 u) w := ⟨hI.q0, hI.q1, hI.q2, fun _ => rfl, hI.q4, hI.q5, hI.q7, hI.rbx, hI.lt, hI.bel⟩
theorem WiI.t7 (hI : WiI w0 zb rb N u n l L vs w) : WiI w0 zb rb N u n l (updB L 7) (updV vs 7 (.int .i64 0)) w := ⟨hI.q0, hI.q1, hI.q2, hI.q3, hI.q4, hI.q5, fun _ => rfl, hI.rbx, hI.lt, hI.bel⟩
theorem WiI.t4 (hI : WiI w0 zb rb N u n l L vs w) (h5 : L 5 = false) (h6 : L 6 = false) {A : Option Addr} {c : Nat} (ho : Own w' w.heap.size (.slice A n c) n l) (hb : Below w.heap.size w w') : WiI w0 zb rb N u n l (updB L 4) (updV vs 4 (.slice A n c)) w' :=
  ⟨hI.q0, hI.q1, hI.q2, hI.q3, fun _ => ⟨A, c, rfl, ho.mono hI.bel.size⟩, fun h => nopeB h5 h, hI.q7, by
    have h3 := hI.rbx
    rw [h6, if_neg Bool.false_ne_true] at h3
    rw [updB_ne L (by decide), h6, if_neg Bool.false_ne_true]
    exact h3.below hb, hI.lt, hI.bel.trans hb⟩
theorem WiI.t5 (hI : WiI w0 zb rb N u n l L vs w) (h4 : L 4 = true) : WiI w0 zb rb N u n l (updB L 5) (updV vs 5 (.agg #[N, vs 4])) w :=
  ⟨hI.q0, hI.q1, hI.q2, hI.q3, hI.q4, fun _ => ⟨h4, rfl⟩, hI.q7, hI.rbx, hI.lt, hI.bel⟩
theorem Bx.onlyT {g b T : Nat} {w w' : World} {cs : Array Value} (h : Bx w b T cs) (ho : Only g w w') (hb : b ≠ g) : Bx w' b T cs := (ho.block b h.lt hb).trans h
theorem Only.row {g : Nat} {a w : World} {cs : Array Value} (h : Only g a w) : Only g a (w.setRow g cs) :=
  ⟨h.os, h.tape, h.output, by rw [size_setRow]; exact h.size, fun k hk hn => (setRow_other w g k cs hn).trans (h.block k hk hn)⟩
theorem WiI.t6 (hI : WiI w0 zb rb N u n l L vs w) : WiI w0 zb rb N u n l (updB L 6) (updV vs 6 undef) (w.setRow rb #[N, vs 4]) :=
  ⟨hI.q0, hI.q1, hI.q2, hI.q3, fun h => by
    obtain ⟨A, c, e1, e2⟩ := hI.q4 h
    exact ⟨A, c, e1, e2.rowO (e2.lt (.inl hI.lt))⟩, hI.q5, hI.q7, hI.rbx.row, hI.lt, hI.bel.row⟩
theorem WiI.fin (hI : WiI w0 zb rb N u n l L vs w) (h : ∀ i, i < 8 → L i = true) : ∃ A c, vs 7 = .int .i64 0 ∧ Bx w rb 29 #[N, .slice A n c] ∧ Own w w0.heap.size (.slice A n c) n l ∧ Only rb w0 w := by
  obtain ⟨A, c, e1, e2⟩ := hI.q4 (h 4 (by decide))
  have h3 := hI.rbx
  rw [if_pos (h 6 (by decide))] at h3
  rw [e1] at e2 h3
  exact ⟨A, c, hI.q7 (h 7 (by decide)), h3, e2, hI.bel⟩
end
/-- What Widen makes of a bound. -/
def wiB (n : Nat) (a c : List Int) (i j : Nat) : Int := if gt n c i j ≤ gt n a i j then gt n a i j else fuB i j
theorem ent_widen1 : Ent 57 := fun args w => enters_of Try.func57 (by kernel_rfl) rfl args w
set_option maxRecDepth 20000 in
set_option maxHeartbeats 400000 in
theorem widen1_any (m i j cb ab : Nat) (u v : Value) (a c : List Int) (w : World) (h1 : Sl iv w u c) (h2 : Sl iv w v a) (hc : Bx w cb 29 #[.int .i64 (m : Int), u]) (ha : Bx w ab 29 #[.int .i64 (m : Int), v]) (hm : m ≤ 24) (hl1 : c.length = (m + 1) * (m + 1)) (hl2 : a.length = (m + 1) * (m + 1)) (hi : i ≤ m) (hj : j ≤ m) :
    Calls Try.prog 57 #[.int .i64 (i : Int), .int .i64 (j : Int), .pointer (some ⟨cb, 0, none⟩), .pointer (some ⟨ab, 0, none⟩)] w (Tells w (.int .i64 (wiB (m + 1) a c i j))) := by
  have HC := Lib.hid hc
  have HA := Lib.hid ha
  have HB1 := Lib.hid (fun w' (hw : Below w.heap.size w w') => bound_any m i j u c w' (h1.below hw) hm hl1 hi hj)
  have HB2 := Lib.hid (fun w' (hw : Below w.heap.size w w') => bound_any m i j v a w' (h2.below hw) hm hl2 hi hj)
  obtain ⟨R, hR⟩ : ∃ R, R = wiB (m + 1) a c i j := ⟨_, rfl⟩
  rw [← hR]
  have HW := Lib.hid (show R = if gt (m + 1) c i j ≤ gt (m + 1) a i j then gt (m + 1) a i j else fuB i j from hR)
  clear hR
  have HF := Lib.hid (fun w' => widest_any i j w' (by omega) (by omega))
  generalize gt (m + 1) c i j = x at *
  generalize gt (m + 1) a i j = y at *
  generalize fuB i j = z at *
  clear h1 h2 hc ha hl1 hl2
  go_enter Try.func57, Try.ntmps57
  go_wp2_with fail
  refine region_phi (n := 23) (Wd [(false, .agg #[.int .i64 (m : Int), u]),
      (false, .int .i64 (i : Int)),
      (false, .int .i64 (j : Int)),
      (false, .int .i64 x),
      (false, .agg #[.int .i64 (m : Int), v]),
      (false, .int .i64 (i : Int)),
      (false, .int .i64 (j : Int)),
      (false, .int .i64 y),
      (false, .bool (decide (x ≤ y)))]) (by kernel_rfl) (by kernel_rfl) rfl (fun _ _ _ _ h _ => h) (allOps_spec ?_) ?_
  · refine ⟨?_, ?_, ?_, ?_, ?_, ?_, ?_, ?_, ?_, trivial⟩
    · intro a w' hb hp
      have b2 : a.tmps[2]?.getD undef = .pointer (some ⟨cb, 0, none⟩) := hb.at 2 (by kernel_rfl)
      have q0 := (HC.out.below hb.ext).cell 0
      have q1 := (HC.out.below hb.ext).cell 1
      exact wd_run rfl rfl (by simp [execOp, go_sem, Act.eval, b2, q0, q1])
    · intro a w' hb hp
      have b0 : a.tmps[0]?.getD undef = .int .i64 (i : Int) := hb.at 0 (by kernel_rfl)
      exact wd_run rfl rfl (by simp [execOp, go_sem, Act.eval, b0])
    · intro a w' hb hp
      have b1 : a.tmps[1]?.getD undef = .int .i64 (j : Int) := hb.at 1 (by kernel_rfl)
      exact wd_run rfl rfl (by simp [execOp, go_sem, Act.eval, b1])
    · intro a w' hb hp
      refine step_call (f := 49) (args := #[.agg #[.int .i64 (m : Int), u], .int .i64 (i : Int), .int .i64 (j : Int)]) rfl (by simp [go_sem, wd_get (hp ⟨0, .data⟩ (by simp) rfl _ rfl) rfl rfl, wd_get (hp ⟨1, .data⟩ (by simp) rfl _ rfl) rfl rfl, wd_get (hp ⟨2, .data⟩ (by simp) rfl _ rfl) rfl rfl]) ?_
      exact (HB1.out _ hb.ext).mono fun e w9 h9 => ⟨_, h9.1, h9.2, wd_mk rfl fun _ => rfl⟩
    · intro a w' hb hp
      have b3 : a.tmps[3]?.getD undef = .pointer (some ⟨ab, 0, none⟩) := hb.at 3 (by kernel_rfl)
      have q0 := (HA.out.below hb.ext).cell 0
      have q1 := (HA.out.below hb.ext).cell 1
      exact wd_run rfl rfl (by simp [execOp, go_sem, Act.eval, b3, q0, q1])
    · intro a w' hb hp
      have b0 : a.tmps[0]?.getD undef = .int .i64 (i : Int) := hb.at 0 (by kernel_rfl)
      exact wd_run rfl rfl (by simp [execOp, go_sem, Act.eval, b0])
    · intro a w' hb hp
      have b1 : a.tmps[1]?.getD undef = .int .i64 (j : Int) := hb.at 1 (by kernel_rfl)
      exact wd_run rfl rfl (by simp [execOp, go_sem, Act.eval, b1])
    · intro a w' hb hp
      refine step_call (f := 49) (args := #[.agg #[.int .i64 (m : Int), v], .int .i64 (i : Int), .int .i64 (j : Int)]) rfl (by simp [go_sem, wd_get (hp ⟨4, .data⟩ (by simp) rfl _ rfl) rfl rfl, wd_get (hp ⟨5, .data⟩ (by simp) rfl _ rfl) rfl rfl, wd_get (hp ⟨6, .data⟩ (by simp) rfl _ rfl) rfl rfl]) ?_
      exact (HB2.out _ hb.ext).mono fun e w9 h9 => ⟨_, h9.1, h9.2, wd_mk rfl fun _ => rfl⟩
    · exact fun a w' hb hp => wd_run rfl rfl (by simp [execOp, go_sem, Act.eval, wd_get (hp ⟨3, .data⟩ (by simp) rfl _ rfl) rfl rfl, wd_get (hp ⟨7, .data⟩ (by simp) rfl _ rfl) rfl rfl])
  · intro vs w2 hext hall
    have HEXT := Lib.hid hext
    have e8 : vs 8 = .bool (decide (x ≤ y)) := hall 8 (by decide) rfl
    clear hext hall
    simp only [putAll, Act.put, List.setIfInBounds_toArray, List.set_cons_zero, List.set_cons_succ, Nat.zero_add, Nat.reduceAdd, e8]
    clear e8
    have HA2 := Lib.hid (HA.out.below HEXT.out)
    obtain ⟨x0, x1⟩ := HA2.out.k2
    by_cases hxy : x ≤ y
    · have hr : R = y := HW.out.trans (if_pos hxy)
      subst hr
      rw [decide_eq_true hxy]
      clear hxy HW
      go_wp2_with fail
      refine (HB2.out _ HEXT.out).mono ?_; rintro e w5 ⟨rfl, hb5⟩
      have HB5 := Lib.hid (HEXT.out.trans (hb5.mono HEXT.out.size))
      clear hb5 x0 x1
      go_wp2_with fail
      go_ret
      exact Tells.of HB5.out
    · have hr : R = z := HW.out.trans (if_neg hxy)
      subst hr
      rw [decide_eq_false hxy]
      clear hxy HW
      go_wp2_with fail
      refine (HF.out _).mono ?_; rintro e w5 ⟨rfl, k, rfl⟩
      have HB5 := Lib.hid (HEXT.out.trans ((below_drewN w2 k).mono HEXT.out.size))
      clear x0 x1
      go_wp2_with fail
      go_ret
      exact Tells.of HB5.out
theorem fn_widen1 (m cb ab : Nat) (u v : Value) (a c : List Int) (w0 : World) (h1 : Sl iv w0 u c) (h2 : Sl iv w0 v a) (hc : Bx w0 cb 29 #[.int .i64 (m : Int), u]) (ha : Bx w0 ab 29 #[.int .i64 (m : Int), v]) (hm : m ≤ 24) (hl1 : c.length = (m + 1) * (m + 1)) (hl2 : a.length = (m + 1) * (m + 1)) :
    FnAt 57 #[] #[.pointer (some ⟨cb, 0, none⟩), .pointer (some ⟨ab, 0, none⟩)] w0 (m + 1) (wiB (m + 1) a c) := fun i j hi hj w hw => by
  have e : (#[] : Array Value) ++ #[.int .i64 (i : Int), .int .i64 (j : Int)] ++ #[.pointer (some ⟨cb, 0, none⟩), .pointer (some ⟨ab, 0, none⟩)] = #[.int .i64 (i : Int), .int .i64 (j : Int), .pointer (some ⟨cb, 0, none⟩), .pointer (some ⟨ab, 0, none⟩)] := by simp
  rw [e]
  exact widen1_any m i j cb ab u v a c w (h1.below hw) (h2.below hw) (hc.below hw) (ha.below hw) hm hl1 hl2 (by omega) (by omega)
/-- Widen. -/
noncomputable def widZ (N : Int) (a : List Int) (M : Int) (b : List Int) : (Int × List Int) × Value :=
  if aliB N a M b = true then
    match closeR M b, closeR N a with
    | none, _ => ((N, a), .int .i64 0)
    | some c, none => ((M, c), .int .i64 0)
    | some c, some _ => ((N, flat (N + 1).toNat (wiB (N + 1).toNat a c)), .int .i64 0)
  else ((0, []), .int .i64 1)
theorem widZ_bad {N : Int} {a : List Int} {M : Int} {b : List Int} (h : aliB N a M b = false) : widZ N a M b = ((0, []), .int .i64 1) := by unfold widZ; rw [h]; rfl
theorem widZ_1 {N : Int} {a : List Int} {M : Int} {b : List Int} (h : aliB N a M b = true) (h1 : closeR M b = none) : widZ N a M b = ((N, a), .int .i64 0) := by unfold widZ; rw [if_pos h, h1]
theorem widZ_2 {N : Int} {a : List Int} {M : Int} {b c : List Int} (h : aliB N a M b = true) (h1 : closeR M b = some c) (h2 : closeR N a = none) : widZ N a M b = ((M, c), .int .i64 0) := by unfold widZ; rw [if_pos h, h1, h2]
theorem widZ_3 {m : Nat} {a b c d : List Int} (h : aliB (m : Int) a (m : Int) b = true) (h1 : closeR (m : Int) b = some c) (h2 : closeR (m : Int) a = some d) : widZ (m : Int) a (m : Int) b = (((m : Int), flat (m + 1) (wiB (m + 1) a c)), .int .i64 0) := by
  unfold widZ; rw [if_pos h, h1, h2, show ((m : Int) + 1).toNat = m + 1 by omega]
set_option maxRecDepth 20000 in
set_option maxHeartbeats 1000000 in
theorem widen_any (N M : Int) (v u : Value) (a b : List Int) (w : World) (h : Sl iv w v a) (hl : a.length ≤ 9223372036854775807) (h2 : Sl iv w u b) (hl2 : b.length ≤ 9223372036854775807) :
    Calls Try.prog 33 #[.agg #[.int .i64 N, v], .agg #[.int .i64 M, u]] w (ZP w (widZ N a M b)) := by
  obtain ⟨A, c, rfl⟩ := h.shape
  obtain ⟨A2, c2, rfl⟩ := h2.shape
  have H := Lib.hid h
  have H2 := Lib.hid h2
  clear h h2
  cases hp : aliB N a M b with
  | false =>
    have HR := Lib.hid (widZ_bad hp)
    have Hp := Lib.hid hp
    clear hp
    go_enter Try.func33, Try.ntmps33
    go_wp2_with fail
    refine (alike_any N M _ _ a b _ (H.out.below (al3 w _ _ _)) hl (H2.out.below (al3 w _ _ _)) hl2).mono ?_; rintro e w1 ⟨rfl, hb⟩; rw [Hp.out]
    obtain ⟨-, -, HY, HB⟩ := three_boxes rfl rfl rfl hb
    obtain ⟨y0, y1⟩ := HY.out.k2
    obtain ⟨f0, f1⟩ := HY.out.f2
    clear hb
    go_wp2_with fail
    refine bodyPost_ret (v := .tuple #[.agg #[.int .i64 0, .slice none 0 0], .int .i64 1]) (bx_ret2 ((HY.out.set 0 _).set 1 _) Try.results33 _ rfl Try.underlying29 rfl (by kernel_rfl)) rfl ?_
    exact zp_zero HR.out (by omega) HB.out
  | true =>
    obtain ⟨m, rfl, rfl, hm, hz1, hz2⟩ := aliB_nat hp
    have HP := Lib.hid hp
    have HZ1 := Lib.hid hz1
    have HZ2 := Lib.hid hz2
    clear hp hz1 hz2
    go_enter Try.func33, Try.ntmps33
    go_wp2_with fail
    refine (alike_any m m _ _ a b _ (H.out.below (al3 w _ _ _)) hl (H2.out.below (al3 w _ _ _)) hl2).mono ?_; rintro e w1 ⟨rfl, hb⟩; rw [HP.out]
    obtain ⟨HX, HD, HY, HB⟩ := three_boxes rfl rfl rfl hb
    obtain ⟨d0, d1⟩ := HD.out.k2
    clear hb
    go_wp2_with fail
    refine (close_any m _ b _ (H2.out.below HB.out) hl2).mono ?_; rintro e w2 ⟨v, rfl, ho, hb⟩
    have HB2 := Lib.hid (HB.out.trans (hb.mono HB.out.size))
    have HX2 := Lib.hid (HX.out.below hb)
    have HY2 := Lib.hid (HY.out.below hb)
    have HS0 := Lib.hid HY.out.lt
    clear hb d0 d1 HB HX HD HY
    cases hc : closeR (m : Int) b with
    | none =>
      have HR := Lib.hid (widZ_1 HP.out hc)
      rw [closeZ_none hc] at ho ⊢
      obtain ⟨A3, c3, rfl⟩ := own_shapeG ho
      have HX3 := Lib.hid (HX2.out.alloc (.cells #[.int .i64 0, .slice A3 ([] : List Int).length c3] 29))
      have HY3 := Lib.hid (HY2.out.alloc (.cells #[.int .i64 0, .slice A3 ([] : List Int).length c3] 29))
      have HB3 := Lib.hid (HB2.out.alloc HB2.out.size (.cells #[.int .i64 0, .slice A3 ([] : List Int).length c3] 29))
      have HLN := Lib.hid HZ1.out.len
      clear ho hc HX2 HY2 HB2
      dsimp only at *
      go_wp2_with fail
      generalize w2.alloc (.cells #[.int .i64 0, .slice A3 ([] : List Int).length c3] 29) = w3 at *
      refine region_inv (n := 40) (WiI w3 w.heap.size (w.heap.size + 2) (.int .i64 (m : Int)) (.slice A a.length c) a.length a) (by kernel_rfl) (by kernel_rfl) rfl ?_ (allOps_spec ?_) ?_
      · intro vs
        exact WiI.start HY3.out
      · refine ⟨?_, ?_, ?_, ?_, ?_, ?_, ?_, ?_, trivial⟩
        · intro L vs a2 w6 hB hL hd hI
          have b0 : a2.tmps[2]?.getD undef = .pointer (some ⟨w.heap.size, 0, none⟩) := hB.at 2 (by kernel_rfl)
          exact stepI_run (v := .pointer (some ⟨w.heap.size, 0, none⟩)) rfl (by simp [execOp, go_sem, Act.eval, b0]) hI.t0
        · intro L vs a2 w6 hB hL hd hI
          have b0 : a2.tmps[22]?.getD undef = .pointer (some ⟨w.heap.size, 0, none⟩) := (hB.val 0 (hd ⟨0, .data⟩ (by simp) rfl) 22 rfl).trans (hI.q0 (hd ⟨0, .data⟩ (by simp) rfl))
          have q0 := (Bx.onlyT HX3.out hI.bel (by omega)).cell 0
          exact stepI_run (v := .int .i64 (m : Int)) rfl (by simp [execOp, go_sem, Act.eval, b0, q0]) hI.t1
        · intro L vs a2 w6 hB hL hd hI
          have b0 : a2.tmps[2]?.getD undef = .pointer (some ⟨w.heap.size, 0, none⟩) := hB.at 2 (by kernel_rfl)
          exact stepI_run (v := .pointer (some ⟨w.heap.size, 1, none⟩)) rfl (by simp [execOp, go_sem, Act.eval, b0]) hI.t2
        · intro L vs a2 w6 hB hL hd hI
          have b0 : a2.tmps[24]?.getD undef = .pointer (some ⟨w.heap.size, 1, none⟩) := (hB.val 2 (hd ⟨2, .data⟩ (by simp) rfl) 24 rfl).trans (hI.q2 (hd ⟨2, .data⟩ (by simp) rfl))
          have q1 := (Bx.onlyT HX3.out hI.bel (by omega)).cell 1
          exact stepI_run (v := .slice A a.length c) rfl (by simp [execOp, go_sem, Act.eval, b0, q1]) hI.t3
        · intro L vs a2 w6 hB hL hd hI
          have b0 : a2.tmps[25]?.getD undef = .slice A a.length c := (hB.val 3 (hd ⟨3, .data⟩ (by simp) rfl) 25 rfl).trans (hI.q3 (hd ⟨3, .data⟩ (by simp) rfl))
          have h5 : L 5 = false := hB.wait 4 5 hL (by kernel_rfl)
          have h6 : L 6 = false := hB.wait 5 6 h5 (by kernel_rfl)
          refine stepI_call (f := 42) (args := #[.slice A a.length c]) rfl (by simp [go_sem, b0]) ?_
          refine (clone_any _ a w6 (H.out.below (HB3.out.trans (hI.bel.low HB3.out.size (by omega)))) (by rw [HLN.out]; exact Nat.le_trans (Nat.mul_le_mul (by omega : m + 1 ≤ 25) (by omega : m + 1 ≤ 25)) (by decide))).mono ?_
          rintro e w9 ⟨v', rfl, ho, h9⟩
          obtain ⟨A9, c9, rfl⟩ := own_shapeG ho
          exact ⟨_, rfl, hI.t4 h5 h6 ho h9⟩
        · intro L vs a2 w6 hB hL hd hI
          have h4 : L 4 = true := hd ⟨4, .data⟩ (by simp) rfl
          have b0 : a2.tmps[23]?.getD undef = .int .i64 (m : Int) := (hB.val 1 (hd ⟨1, .data⟩ (by simp) rfl) 23 rfl).trans (hI.q1 (hd ⟨1, .data⟩ (by simp) rfl))
          obtain ⟨A9, c9, e9, -⟩ := hI.q4 h4
          have b1 : a2.tmps[26]?.getD undef = .slice A9 a.length c9 := (hB.val 4 h4 26 rfl).trans e9
          exact stepI_run (v := .agg #[.int .i64 (m : Int), vs 4]) rfl (by simp [execOp, go_sem, Act.eval, b0, b1, e9]) (hI.t5 h4)
        · intro L vs a2 w6 hB hL hd hI
          have h5 : L 5 = true := hd ⟨5, .data⟩ (by simp) rfl
          obtain ⟨h4, e5⟩ := hI.q5 h5
          obtain ⟨A9, c9, e9, -⟩ := hI.q4 h4
          have hx := hI.rbx
          rw [hL, if_neg Bool.false_ne_true] at hx
          have b4 : a2.tmps[4]?.getD undef = .pointer (some ⟨w.heap.size + 2, 0, none⟩) := hB.at 4 (by kernel_rfl)
          have b27 : a2.tmps[27]?.getD undef = .agg #[.int .i64 (m : Int), vs 4] := (hB.val 5 h5 27 rfl).trans e5
          exact stepI_store_row rfl 29 4 27 rfl (w.heap.size + 2) _ b4 b27 _ hx (by kernel_rfl) rfl (by rw [e9]; simp [Value.oneCell']) hI.t6
        · intro L vs a2 w6 hB hL hd hI
          exact stepI_run (v := .int .i64 0) rfl (by simp [execOp, go_sem, Act.eval]) hI.t7
      · intro L vs w4 hall hI
        obtain ⟨A4, c4, e7, hx4, ho4, hb4⟩ := hI.fin fun i hi => hall i hi
        clear hI hall
        simp only [putAll, Act.put, List.setIfInBounds_toArray, List.set_cons_zero, List.set_cons_succ, Nat.zero_add, Nat.reduceAdd, e7]
        clear e7
        have HX4 := Lib.hid hx4
        have HO4 := Lib.hid ho4
        have HB4 := Lib.hid (HB3.out.trans (hb4.low HB3.out.size (by omega)))
        have HS3 := Lib.hid HB3.out.size
        clear hx4 ho4 hb4 HX3 HY3
        go_wp2_with fail
        refine bodyPost_ret (v := .tuple #[.agg #[.int .i64 (m : Int), .slice A4 a.length c4], .int .i64 0]) (bx_ret2 HX4.out Try.results33 _ rfl Try.underlying29 rfl (by kernel_rfl)) rfl ?_
        exact ZP.ok HR.out (HO4.out.mono HS3.out) HB4.out
    | some cl =>
      rw [closeZ_some hc] at ho ⊢
      obtain ⟨A3, c3, rfl⟩ := own_shapeG ho
      dsimp only at ho ⊢
      have HCL := Lib.hid (cls_len HZ2.out ((closeR_nat HZ2.out).symm.trans hc))
      have HO3 := Lib.hid (show Own (w2.alloc (.cells #[.int .i64 (m : Int), .slice A3 cl.length c3] 29)) _ _ _ _ from Own.keep ho (al1 w2 _))
      have HX3 := Lib.hid (HX2.out.alloc (.cells #[.int .i64 (m : Int), .slice A3 cl.length c3] 29))
      have HY3 := Lib.hid (HY2.out.alloc (.cells #[.int .i64 (m : Int), .slice A3 cl.length c3] 29))
      have HC3 := Lib.hid (Bx.new w2 29 #[.int .i64 (m : Int), .slice A3 cl.length c3])
      have HB3 := Lib.hid (HB2.out.alloc HB2.out.size (.cells #[.int .i64 (m : Int), .slice A3 cl.length c3] 29))
      have HCC := Lib.hid hc
      clear ho hc HX2 HY2 HB2
      obtain ⟨x0, x1⟩ := HX3.out.k2
      go_wp2_with fail
      refine (close_any m _ a _ (H.out.below HB3.out) hl).mono ?_; rintro e w4 ⟨v, rfl, ho, hb⟩
      have HB4 := Lib.hid (HB3.out.trans (hb.mono HB3.out.size))
      have HX4 := Lib.hid (HX3.out.below hb)
      have HY4 := Lib.hid (HY3.out.below hb)
      have HC4 := Lib.hid (HC3.out.below hb)
      have HO4 := Lib.hid (show Own w4 _ _ _ _ from Own.keep HO3.out hb)
      clear hb x0 x1 HB3 HX3 HY3 HC3 HO3
      cases hca : closeR (m : Int) a with
      | none =>
        have HR := Lib.hid (widZ_2 HP.out HCC.out hca)
        rw [closeZ_none hca] at ho ⊢
        obtain ⟨A5, c5, rfl⟩ := own_shapeG ho
        dsimp only at ho ⊢
        have HB5 := Lib.hid (HB4.out.alloc HB4.out.size (.cells #[.int .i64 0, .slice A5 0 c5] 29))
        have HC5 := Lib.hid (HC4.out.alloc (.cells #[.int .i64 0, .slice A5 0 c5] 29))
        have HY5 := Lib.hid (HY4.out.alloc (.cells #[.int .i64 0, .slice A5 0 c5] 29))
        have HO5 := Lib.hid (show Own (w4.alloc (.cells #[.int .i64 0, .slice A5 0 c5] 29)) _ _ _ _ from Own.keep HO4.out (al1 w4 _))
        clear ho hca HB4 HC4 HY4 HO4 HX4
        obtain ⟨x0, x1⟩ := HC5.out.k2
        obtain ⟨y0, y1⟩ := HY5.out.k2
        obtain ⟨f0, f1⟩ := HY5.out.f2
        go_wp2_with fail
        refine bodyPost_ret (v := .tuple #[.agg #[.int .i64 (m : Int), .slice A3 cl.length c3], .int .i64 0]) (bx_ret2 ((HY5.out.set 0 _).set 1 _) Try.results33 _ rfl Try.underlying29 rfl (by kernel_rfl)) rfl ?_
        exact zp_fin HR.out (by omega) HB5.out (by have := HS0.out; omega) HO5.out (HO5.out.lt (.inl (by have := HS0.out; omega)))
      | some d =>
        have HR := Lib.hid (widZ_3 HP.out HCC.out hca)
        rw [closeZ_some hca] at ho ⊢
        obtain ⟨A5, c5, rfl⟩ := own_shapeG ho
        dsimp only at ho ⊢
        have HB5 := Lib.hid (HB4.out.alloc HB4.out.size (.cells #[.int .i64 (m : Int), .slice A5 d.length c5] 29))
        have HX5 := Lib.hid (HX4.out.alloc (.cells #[.int .i64 (m : Int), .slice A5 d.length c5] 29))
        have HC5 := Lib.hid (HC4.out.alloc (.cells #[.int .i64 (m : Int), .slice A5 d.length c5] 29))
        have HY5 := Lib.hid (HY4.out.alloc (.cells #[.int .i64 (m : Int), .slice A5 d.length c5] 29))
        have HO5 := Lib.hid (show Own (w4.alloc (.cells #[.int .i64 (m : Int), .slice A5 d.length c5] 29)) _ _ _ _ from Own.keep HO4.out (al1 w4 _))
        clear ho hca HB4 HC4 HY4 HO4 HX4
        obtain ⟨x0, x1⟩ := HX5.out.k2
        go_wp2_with fail
        refine (zoneOf_any m hm _ _ _ (wiB (m + 1) a cl) _ ent_widen1 (fn_widen1 m _ _ _ _ a cl _ (Own.sl HO5.out) (H.out.below HB5.out) HC5.out HX5.out hm HCL.out HZ1.out.len)).mono ?_; rintro e w6 ⟨v, rfl, ho, hb⟩
        obtain ⟨A6, c6, rfl⟩ := own_shapeG ho
        have HO6 := Lib.hid (show Own w6 _ _ _ _ from ho)
        have HY6 := Lib.hid (HY5.out.below hb)
        have HB6 := Lib.hid (HB5.out.trans (hb.mono HB5.out.size))
        have HS5 := Lib.hid HB5.out.size
        have HS6 := Lib.hid HY5.out.lt
        obtain ⟨y0, y1⟩ := HY6.out.k2
        obtain ⟨f0, f1⟩ := HY6.out.f2
        clear ho hb x0 x1
        go_wp2_with fail
        refine bodyPost_ret (v := .tuple #[.agg #[.int .i64 (m : Int), .slice A6 ((m + 1) * (m + 1)) c6], .int .i64 0]) (bx_ret2 ((HY6.out.set 0 _).set 1 _) Try.results33 _ rfl Try.underlying29 rfl (by kernel_rfl)) rfl ?_
        exact zp_fin HR.out (by omega) HB6.out HS5.out HO6.out (HO6.out.lt (.inl HS6.out))
end Go.Proofs.Yteoddcamicmapaa
