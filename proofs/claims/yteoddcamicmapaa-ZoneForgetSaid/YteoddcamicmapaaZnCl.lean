/- Layer 13: New, empty, alike and Close of zone. -/
import Derived.Test.YteoddcamicmapaaZnSh
import Derived.Shelf.Abstract
namespace Go.Proofs.Yteoddcamicmapaa
open Go.RowKit

theorem ent_widest : Ent 47 := fun args w => enters_of Try.func47 (by kernel_rfl) rfl args w
theorem ent_close1 : Ent 50 := fun args w => enters_of Try.func50 (by kernel_rfl) rfl args w
theorem below_drewN (w : World) (n : Nat) : Below w.heap.size w (w.drewN n) := ⟨rfl, rfl, rfl, Nat.le_refl _, fun _ _ => rfl⟩
theorem fn_widest (w0 : World) (n : Nat) (hn : n ≤ 1000) : FnAt 47 #[] #[] w0 n fuB := fun i j hi hj w _ => by
  have h := widest_any i j w (by omega) (by omega)
  have e : (#[] : Array Value) ++ #[.int .i64 (i : Int), .int .i64 (j : Int)] ++ #[] = #[.int .i64 (i : Int), .int .i64 (j : Int)] := by simp
  rw [e]
  refine h.mono ?_
  rintro e w' ⟨rfl, k, rfl⟩
  exact ⟨rfl, below_drewN _ _⟩
set_option maxHeartbeats 400000 in
theorem close1_any (m i j zb : Nat) (v : Value) (b : List Int) (w : World) (h : Sl iv w v b) (hb : Bx w zb 29 #[.int .i64 (m : Int), v]) (hm : m ≤ 24) (hl : b.length = (m + 1) * (m + 1)) (hi : i ≤ m) (hj : j ≤ m) :
    Calls Try.prog 50 #[.int .i64 (i : Int), .int .i64 (j : Int), .pointer (some ⟨zb, 0, none⟩)] w (Tells w (.int .i64 (dm (m + 1) b i j))) := by
  have H := Lib.hid h
  have HL := Lib.hid hl
  obtain ⟨x0, x1⟩ := hb.k2
  have HD := Lib.hid (show dm (m + 1) b i j = min (gt (m + 1) b i j) (fuB i j) from rfl)
  rw [HD.out]
  clear h hl hb HD
  go_enter Try.func50, Try.ntmps50
  go_wp2_with fail
  refine (bound_any m i j v b _ H.out hm HL.out hi hj).mono ?_; rintro e w2 ⟨rfl, hb2⟩
  have HB2 := Lib.hid hb2
  generalize gt (m + 1) b i j = x at *
  clear hb2 x0 x1
  go_wp2_with fail
  refine (widest_any i j _ (by omega) (by omega)).mono ?_; rintro e w3 ⟨rfl, k, rfl⟩
  generalize fuB i j = y at *
  go_wp2_with fail
  all_goals
    have HQ := Lib.hid (HB2.out.trans ((below_drewN w2 k).mono HB2.out.size))
    clear HB2
    go_ret
    exact ⟨by first | (rw [Int.min_eq_right (by omega)]; rfl) | (rw [Int.min_eq_left (by omega)]; rfl), HQ.out⟩
theorem fn_close1 (m zb : Nat) (v : Value) (b : List Int) (w0 : World) (h : Sl iv w0 v b) (hb : Bx w0 zb 29 #[.int .i64 (m : Int), v]) (hm : m ≤ 24) (hl : b.length = (m + 1) * (m + 1)) :
    FnAt 50 #[] #[.pointer (some ⟨zb, 0, none⟩)] w0 (m + 1) (dm (m + 1) b) := fun i j hi hj w hw => by
  have e : (#[] : Array Value) ++ #[.int .i64 (i : Int), .int .i64 (j : Int)] ++ #[.pointer (some ⟨zb, 0, none⟩)] = #[.int .i64 (i : Int), .int .i64 (j : Int), .pointer (some ⟨zb, 0, none⟩)] := by simp
  rw [e]
  exact close1_any m i j zb v b w (h.below hw) (hb.below hw) hm hl (by omega) (by omega)
/-- A zone and a second result: a row of the call's own. -/
def ZP (w : World) (R : (Int × List Int) × Value) (e : Ending) (w' : World) : Prop :=
  ∃ v, e = .returned (.tuple #[.agg #[.int .i64 R.1.1, v], R.2]) ∧ Own w' w.heap.size v R.1.2.length R.1.2 ∧ Below w.heap.size w w'
theorem ZP.zero {w w' : World} {x : Value} {R : (Int × List Int) × Value} (h : R = ((0, []), x)) (hb : Below w.heap.size w w') : ZP w R (.returned (.tuple #[.agg #[.int .i64 0, .slice none 0 0], x])) w' := by
  subst h; exact ⟨_, rfl, World.ownsRow_nil _ _ _ _, hb⟩
theorem ZP.ok {w w' : World} {N : Int} {l : List Int} {x : Value} {n : Nat} {R : (Int × List Int) × Value} {v : Value} (h : R = ((N, l), x)) (ho : Own w' w.heap.size v n l) (hb : Below w.heap.size w w') : ZP w R (.returned (.tuple #[.agg #[.int .i64 N, v], x])) w' := by
  subst h
  obtain rfl : l.length = n := by have := ho.1; simpa using this
  exact ⟨v, rfl, ho, hb⟩
theorem Own.mono {w : World} {B B' n : Nat} {v : Value} {l : List Int} (h : Own w B v n l) (hB : B' ≤ B) : Own w B' v n l := by
  refine ⟨h.1, ?_⟩
  rcases h.2 with h1 | ⟨g, cap, cur, h1, h2, h3⟩
  · exact .inl h1
  · exact .inr ⟨g, cap, cur, h1, by omega, h3⟩
theorem Own.other {w : World} {B k i n : Nat} {v y : Value} {l : List Int} (h : Own w B v n l) (hk : v.ownBlock ≠ some k) : Own (w.setCell ⟨k, i, none⟩ y) B v n l :=
  World.ownsRow.kept (row := some k) h ⟨rfl, rfl, rfl, by rw [size_set]; exact Nat.le_refl _, fun q _ hne => Below.heap_setCell _ _ _ _ (by intro e; exact hne (by rw [e]))⟩ (by
    cases e : v.ownBlock with
    | none => exact .inl rfl
    | some b => exact .inr (by rw [← e]; exact hk))
theorem Own.lt {w : World} {B n : Nat} {v : Value} {l : List Int} (h : Own w B v n l) {k : Nat} (hk : k < B ∨ w.heap.size ≤ k) : v.ownBlock ≠ some k := fun e => by
  have := World.ownsRow.lt h k e; omega
/-- New. -/
def newR (n : Int) : (Int × List Int) × Value := if possB n = true then ((n, flat (n.toNat + 1) fuB), .int .i64 0) else ((0, []), .int .i64 2)
set_option maxRecDepth 20000 in
set_option maxHeartbeats 400000 in
theorem new_any (n : Int) (w : World) : Calls Try.prog 17 #[.int .i64 n] w (ZP w (newR n)) := by
  by_cases hp : possB n = true
  · have Hp := Lib.hid hp
    unfold possB at hp
    rw [decide_eq_true_iff] at hp
    obtain ⟨m, rfl⟩ : ∃ m : Nat, n = m := ⟨n.toNat, by omega⟩
    have hm : m ≤ 24 := by omega
    have HR := Lib.hid (show newR (m : Int) = (((m : Int), flat (m + 1) fuB), .int .i64 0) by unfold newR; rw [if_pos Hp.out, Int.toNat_natCast])
    have HX := Lib.hid (Bx.new w 29 #[.int .i64 0, .slice none 0 0])
    clear hp
    go_enter Try.func17, Try.ntmps17
    go_wp2_with fail
    refine (possible_any _ _).mono ?_; rintro e w1 ⟨rfl, rfl⟩; rw [Hp.out]
    go_wp2_with fail
    refine (zoneOf_any m hm _ _ _ fuB _ ent_widest (fn_widest _ _ (by omega))).mono ?_; rintro e w2 ⟨v, rfl, ho, hb⟩
    obtain ⟨A, c, rfl⟩ := own_shapeG ho
    have HO := Lib.hid (show Own w2 _ _ _ _ from ho)
    have HB := Lib.hid hb
    have HX2 := Lib.hid (HX.out.below hb)
    obtain ⟨x0, x1⟩ := HX2.out.k2
    obtain ⟨f0, f1⟩ := HX2.out.f2
    clear ho hb HX
    go_wp2_with fail
    refine bodyPost_ret (v := .tuple #[.agg #[.int .i64 (m : Int), .slice A ((m + 1) * (m + 1)) c], .int .i64 0]) (bx_ret2 ((HX2.out.set 0 _).set 1 _) Try.results17 _ rfl Try.underlying29 rfl (by kernel_rfl)) rfl ?_
    have h1 := HO.out.lt (k := w.heap.size) (.inl (by simp))
    exact ZP.ok HR.out (((HO.out.other h1).other h1).mono (by simp)) (((al1 w _).trans (HB.out.mono (by simp))).setCell (p := ⟨w.heap.size, 0, none⟩) (Nat.le_refl _) _ |>.setCell (p := ⟨w.heap.size, 1, none⟩) (Nat.le_refl _) _)
  · rw [Bool.not_eq_true] at hp
    have HR := Lib.hid (show newR n = ((0, []), .int .i64 2) by unfold newR; rw [hp]; rfl)
    have Hp := Lib.hid hp
    have HX := Lib.hid (Bx.new w 29 #[.int .i64 0, .slice none 0 0])
    clear hp
    go_enter Try.func17, Try.ntmps17
    go_wp2_with fail
    refine (possible_any _ _).mono ?_; rintro e w1 ⟨rfl, rfl⟩; rw [Hp.out]
    go_wp2_with fail
    refine bodyPost_ret (v := .tuple #[.agg #[.int .i64 0, .slice none 0 0], .int .i64 2]) (bx_ret2 HX.out Try.results17 _ rfl Try.underlying29 rfl (by kernel_rfl)) rfl ?_
    exact ZP.zero HR.out (al1 w _)
/-- Close. -/
noncomputable def closeZ (N : Int) (b : List Int) : (Int × List Int) × Value := match closeR N b with | some c => ((N, c), .bool true) | none => ((0, []), .bool false)
theorem closeZ_none {N : Int} {b : List Int} (h : closeR N b = none) : closeZ N b = ((0, []), .bool false) := by unfold closeZ; rw [h]
theorem closeZ_some {N : Int} {b c : List Int} (h : closeR N b = some c) : closeZ N b = ((N, c), .bool true) := by unfold closeZ; rw [h]
theorem zv_nat {N : Int} {b : List Int} (h : zvB N b = true) : ∃ m : Nat, N = m ∧ m ≤ 24 ∧ b.length = (m + 1) * (m + 1) ∧ Zv (m + 1) b := by
  obtain ⟨n, rfl, hz⟩ := zvB_iff.1 h
  obtain ⟨m, rfl⟩ : ∃ m, n = m + 1 := ⟨n - 1, by have := hz.pos; omega⟩
  exact ⟨m, by omega, by have := hz.few; omega, hz.len, hz⟩
theorem closeR_nat {m : Nat} {b : List Int} (h : Zv (m + 1) b) : closeR (m : Int) b = cls (m + 1) b := by
  have := closeR_v h
  rwa [show ((m + 1 : Nat) : Int) - 1 = (m : Int) by omega] at this
set_option maxRecDepth 20000 in
set_option maxHeartbeats 400000 in
theorem close_any (N : Int) (v : Value) (b : List Int) (w : World) (h : Sl iv w v b) (hl : b.length ≤ 9223372036854775807) : Calls Try.prog 25 #[.agg #[.int .i64 N, v]] w (ZP w (closeZ N b)) := by
  obtain ⟨A, c, rfl⟩ := h.shape
  have H := Lib.hid h
  clear h
  cases hp : zvB N b with
  | false =>
    have HR := Lib.hid (closeZ_none (closeR_bad hp))
    have Hp := Lib.hid hp
    have HX := Lib.hid (heap_alloc_2' w (.cells #[.int .i64 N, .slice A b.length c] 29) (.cells #[.int .i64 0, .slice none 0 0] 29))
    clear hp
    go_enter Try.func25, Try.ntmps25
    go_wp2_with fail
    refine (valid_any N _ b _ (H.out.below (al2 w _ _)) hl).mono ?_; rintro e w1 ⟨rfl, hb⟩; rw [Hp.out]
    have HX2 := Lib.hid (Bx.two' rfl hb)
    have HB := Lib.hid ((al2 w (.cells #[.int .i64 N, .slice A b.length c] 29) (.cells #[.int .i64 0, .slice none 0 0] 29)).trans (hb.mono (by simp; omega)))
    obtain ⟨x0, x1⟩ := HX2.out.k2
    obtain ⟨f0, f1⟩ := HX2.out.f2
    clear hb
    go_wp2_with fail
    refine bodyPost_ret (v := .tuple #[.agg #[.int .i64 0, .slice none 0 0], .bool false]) (bx_ret2 ((HX2.out.set 0 _).set 1 _) Try.results25 _ rfl Try.underlying29 rfl (by kernel_rfl)) rfl ?_
    exact ZP.zero HR.out ((HB.out.setCell (p := ⟨w.heap.size + 1, 0, none⟩) (Nat.le_succ _) _).setCell (p := ⟨w.heap.size + 1, 1, none⟩) (Nat.le_succ _) _)
  | true =>
    obtain ⟨m, rfl, hm, hlen, hz⟩ := zv_nat hp
    have HZ := Lib.hid hz
    have HL := Lib.hid hlen
    have Hp := Lib.hid hp
    clear hp hz hlen
    go_enter Try.func25, Try.ntmps25
    go_wp2_with fail
    refine (valid_any (m : Int) _ b _ (H.out.below (al2 w _ _)) hl).mono ?_; rintro e w1 ⟨rfl, hb⟩; rw [Hp.out]
    have HX := Lib.hid (Bx.two rfl hb)
    have HR0 := Lib.hid (Bx.two' rfl hb)
    have HB := Lib.hid ((al2 w (.cells #[.int .i64 (m : Int), .slice A b.length c] 29) (.cells #[.int .i64 0, .slice none 0 0] 29)).trans (hb.mono (by simp; omega)))
    have HS1 := Lib.hid hb.size
    obtain ⟨x0, x1⟩ := HX.out.k2
    clear hb
    go_wp2_with fail
    refine (zoneOf_any m hm _ _ _ (dm (m + 1) b) _ ent_close1 (fn_close1 m w.heap.size _ b _ (H.out.below HB.out) HX.out hm HL.out)).mono ?_; rintro e w2 ⟨v, rfl, ho, hb2⟩
    obtain ⟨A2, c2, rfl⟩ := own_shapeG ho
    have HO := Lib.hid (show Own w2 _ _ _ _ from ho)
    have HB2 := Lib.hid (HB.out.trans (hb2.mono HB.out.size))
    have HR1 := Lib.hid (HR0.out.below hb2)
    have HS2 := Lib.hid hb2.size
    clear ho hb2 HX HR0 HB x0 x1
    go_wp2_with fail
    have HX3 := Lib.hid (Bx.new w2 29 #[.int .i64 (m : Int), .slice A2 ((m + 1) * (m + 1)) c2])
    have HO3 := Lib.hid (show Own (w2.alloc (.cells #[.int .i64 (m : Int), .slice A2 ((m + 1) * (m + 1)) c2] 29)) _ _ _ _ from HO.out.keep (al1 w2 _))
    refine (shorten_any m _ (dm (m + 1) b) w1.heap.size _ HZ.out.dok HO3.out).mono ?_; rintro e w3 ⟨hk, hres⟩
    obtain ⟨g, cap, hg, hg1, hg2, -⟩ := own_shape HO.out (Nat.mul_le_mul (by omega : 1 ≤ m + 1) (by omega : 1 ≤ m + 1))
    simp only [Value.slice.injEq] at hg
    obtain ⟨rfl, -, rfl⟩ := hg
    have hon := hk g rfl
    have HX4 := Lib.hid ((hon.block _ (by simp) (by omega)).trans HX3.out)
    have HR4 := Lib.hid ((hon.block _ (by have := HR1.out.lt; simp; omega) (by have := HR1.out.lt; have := HS1.out; simp at this; omega)).trans (HR1.out.alloc _))
    have HB4 := Lib.hid (HB2.out.trans (((al1 w2 (.cells #[.int .i64 (m : Int), .slice (some ⟨g, 0, none⟩) ((m + 1) * (m + 1)) c2] 29)).mono HB2.out.size).trans (hon.low (B := w.heap.size) (by have := HB2.out.size; simp; omega) (by have := HS1.out; simp at this; omega))))
    clear hk hon HX3 HO3 HO HR1 HB2
    obtain ⟨x0, x1⟩ := (show Bx w3 w2.heap.size 29 #[.int .i64 (m : Int), .slice (some ⟨g, 0, none⟩) ((m + 1) * (m + 1)) c2] from HX4.out).k2
    obtain ⟨y0, y1⟩ := (show Bx w3 (w.heap.size + 1) 29 #[.int .i64 0, .slice none 0 0] from HR4.out).k2
    obtain ⟨f0, f1⟩ := (show Bx w3 (w.heap.size + 1) 29 #[.int .i64 0, .slice none 0 0] from HR4.out).f2
    rcases hres with ⟨rfl, M, hM, hO⟩ | ⟨rfl, hE⟩
    · have HRC := Lib.hid (closeZ_some ((closeR_nat HZ.out).trans ((ClR.some hM).cls HZ.out)))
      have HO4 := Lib.hid hO
      clear hM hO
      go_wp2_with fail
      refine bodyPost_ret (v := .tuple #[.agg #[.int .i64 (m : Int), .slice (some ⟨g, 0, none⟩) ((m + 1) * (m + 1)) c2], .bool true]) (bx_ret2 (Bx.set (Bx.set (show Bx w3 (w.heap.size + 1) 29 #[.int .i64 0, .slice none 0 0] from HR4.out) 0 _) 1 _) Try.results25 _ rfl Try.underlying29 rfl (by kernel_rfl)) rfl ?_
      have h1 := HO4.out.lt (k := w.heap.size + 1) (.inl (by have := HS1.out; simp at this; omega))
      exact ZP.ok HRC.out (((HO4.out.other h1).other h1).mono (by have := HS1.out; simp at this; omega)) ((HB4.out.setCell (p := ⟨w.heap.size + 1, 0, none⟩) (Nat.le_succ _) _).setCell (p := ⟨w.heap.size + 1, 1, none⟩) (Nat.le_succ _) _)
    · have HRC := Lib.hid (closeZ_none ((closeR_nat HZ.out).trans (ClR.cls (r := none) HZ.out hE)))
      clear hE
      go_wp2_with fail
      refine bodyPost_ret (v := .tuple #[.agg #[.int .i64 0, .slice none 0 0], .bool false]) (bx_ret2 (Bx.set (Bx.set (show Bx w3 (w.heap.size + 1) 29 #[.int .i64 0, .slice none 0 0] from HR4.out) 0 _) 1 _) Try.results25 _ rfl Try.underlying29 rfl (by kernel_rfl)) rfl ?_
      exact ZP.zero HRC.out ((HB4.out.setCell (p := ⟨w.heap.size + 1, 0, none⟩) (Nat.le_succ _) _).setCell (p := ⟨w.heap.size + 1, 1, none⟩) (Nat.le_succ _) _)
end Go.Proofs.Yteoddcamicmapaa
