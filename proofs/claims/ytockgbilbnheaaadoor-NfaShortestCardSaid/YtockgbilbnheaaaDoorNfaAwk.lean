/- The example of the document, plainly: what it accepts, its subset automaton. -/
import Derived.Test.YtockgbilbnheaaaDoorNfaOwn
namespace Go.Proofs.YtockgbilbnheaaaDoor
/- The example of the document, plainly: what it accepts, its subset automaton. -/
open Go.RowKit

def ar0 : List Ac := [(0, 1, 0), (0, 2, 0), (0, 2, 1)]
theorem vn0 : VN 2 [0] [false, true] ar0 := ⟨by decide, rfl, ⟨by unfold Srt ar0; decide, by unfold ar0; decide, by unfold ar0; decide, by unfold ar0; decide, by unfold ar0; decide⟩, by decide, by decide⟩
theorem cl0 {Q : Int → Prop} {n : Int} : Cl ar0 Q n ↔ Q n := by
 constructor
 ·intro h
  induction h with
  | base h => exact h
  | step _ ha _ => simp [ar0] at ha
 ·exact .base
theorem arr0 {Q : Int → Prop} {c p : Int} : Arr ar0 Q c p ↔ Q 0 ∧ ((c = 1 ∧ p = 0) ∨ (c = 2 ∧ (p = 0 ∨ p = 1))) := by
 unfold Arr
 constructor
 ·rintro ⟨h1, h2, m, h3, h4⟩
  simp only [ar0, List.mem_cons, Prod.mk.injEq, List.not_mem_nil, or_false] at h4
  rcases h4 with ⟨rfl, rfl, rfl⟩ | ⟨rfl, rfl, rfl⟩ | ⟨rfl, rfl, rfl⟩
  ·exact ⟨h3, .inl ⟨rfl, rfl⟩⟩
  ·exact ⟨h3, .inr ⟨rfl, .inl rfl⟩⟩
  ·exact ⟨h3, .inr ⟨rfl, .inr rfl⟩⟩
 ·rintro ⟨h, ⟨rfl, rfl⟩ | ⟨rfl, rfl | rfl⟩⟩
  ·exact ⟨by decide, by decide, 0, h, by simp [ar0]⟩
  ·exact ⟨by decide, by decide, 0, h, by simp [ar0]⟩
  ·exact ⟨by decide, by decide, 0, h, by simp [ar0]⟩
theorem sp0 {Q : Int → Prop} {c p : Int} : Sp ar0 Q c p ↔ Q 0 ∧ ((c = 1 ∧ p = 0) ∨ (c = 2 ∧ (p = 0 ∨ p = 1))) := cl0.trans arr0
theorem acc12 : AccP [0] [false, true] ar0 [1, 2] := by
 refine ⟨1, ?_, rfl⟩
 show Sp ar0 (Sp ar0 (Cl ar0 (fun x => x ∈ [0])) 1) 2 ((1 : Nat) : Int)
 rw [sp0, sp0, cl0]
 simp
theorem acc21 : ¬ AccP [0] [false, true] ar0 [2, 1] := by
 rintro ⟨n, h1, h2⟩
 have h1 : Sp ar0 (Sp ar0 (Cl ar0 (fun x => x ∈ [0])) 2) 1 ((n : Nat) : Int) := h1
 rw [sp0] at h1
 have : n = 0 := by omega
 subst this
 cases h2
theorem has_word (x n : Nat) : has [x] n = true ↔ n < 64 ∧ x.testBit n = true := by
 unfold has wat
 by_cases h : n < 64
 ·rw [show n / 64 = 0 by omega, show n % 64 = n by omega]
  simp [h]
 ·have h2 : [x][n / 64]?.getD 0 = 0 := by
   rw [List.getElem?_eq_none (by simp; omega)]; rfl
  rw [h2]
  simp [h]
theorem has1 (n : Nat) : has [1] n = true ↔ n = 0 := by
 rw [has_word]
 have h : ∀ n, n < 64 → (Nat.testBit 1 n = true ↔ n = 0) := by decide
 constructor
 ·rintro ⟨h1, h2⟩; exact (h n h1).1 h2
 ·rintro rfl; exact ⟨by decide, by decide⟩
theorem has3 (n : Nat) : has [3] n = true ↔ n = 0 ∨ n = 1 := by
 rw [has_word]
 have h : ∀ n, n < 64 → (Nat.testBit 3 n = true ↔ n = 0 ∨ n = 1) := by decide
 constructor
 ·rintro ⟨h1, h2⟩; exact (h n h1).1 h2
 ·rintro (rfl | rfl) <;> exact ⟨by decide, by decide⟩
theorem els1 (z : Int) : Els [1] z ↔ z = 0 := by
 constructor
 ·rintro ⟨k, rfl, h⟩; have := (has1 k).1 h; omega
 ·rintro rfl; exact ⟨0, rfl, (has1 0).2 rfl⟩
theorem els3 (z : Int) : Els [3] z ↔ z = 0 ∨ z = 1 := by
 constructor
 ·rintro ⟨k, rfl, h⟩; have := (has3 k).1 h; omega
 ·rintro (rfl | rfl)
  ·exact ⟨0, rfl, (has3 0).2 (.inl rfl)⟩
  ·exact ⟨1, rfl, (has3 1).2 (.inr rfl)⟩
theorem wd1 {P : Nat → Prop} (h : ∀ n, P n ↔ n = 0) : wordsOf P = [1] := wordsOf_eq ⟨by unfold Canon; decide, by unfold Wds U64; decide, by decide, fun n => (has1 n).trans (h n).symm⟩
theorem wd3 {P : Nat → Prop} (h : ∀ n, P n ↔ n = 0 ∨ n = 1) : wordsOf P = [3] := wordsOf_eq ⟨by unfold Canon; decide, by unfold Wds U64; decide, by decide, fun n => (has3 n).trans (h n).symm⟩
theorem s0_eq : (wordsOf fun n => Rc ar0 [0] n) = [1] := wd1 fun n => by rw [rc_cl, cl0]; simp
theorem nx1 {ws : List Nat} (h : Els ws 0) : nx ar0 ws 1 = [1] := wd1 fun n => by rw [sp0]; constructor <;> intro h2 <;> first | omega | exact ⟨h, .inl ⟨rfl, by omega⟩⟩
theorem nx2 {ws : List Nat} (h : Els ws 0) : nx ar0 ws 2 = [3] := wd3 fun n => by rw [sp0]; constructor <;> intro h2 <;> first | omega | exact ⟨h, .inr ⟨rfl, by omega⟩⟩
theorem lets0 {ws : List Nat} (h : Els ws 0) : letsOf ar0 ws = [1, 2] := by
 refine letsOf_eq ⟨by decide, fun c => ?_⟩
 constructor
 ·intro hc
  simp only [List.mem_cons, List.not_mem_nil, or_false] at hc
  rcases hc with rfl | rfl
  ·exact ⟨(0, 1, 0), by simp [ar0], h, by decide, rfl⟩
  ·exact ⟨(0, 2, 0), by simp [ar0], h, by decide, rfl⟩
 ·rintro ⟨x, h1, _, _, rfl⟩
  simp only [ar0, List.mem_cons, List.not_mem_nil, or_false] at h1
  rcases h1 with rfl | rfl | rfl <;> simp
theorem dget1 : (dget ar0 [1] 1).1 = [[1], [3]] := by
 show (drow ar0 ([[1]], []) 0).1 = _
 unfold drow
 dsimp only [List.getElem?_cons_zero, Option.getD_some]
 rw [lets0 ((els1 0).2 rfl), List.foldl_cons, List.foldl_cons, List.foldl_nil, dst1_known (nx1 ((els1 0).2 rfl)) (by simp), dst1_new (nx2 ((els1 0).2 rfl)) (by simp)]
 rfl
theorem dget2 : (dget ar0 [1] 2).1 = [[1], [3]] := by
 have h1 := dget1
 show (drow ar0 (dget ar0 [1] 1) 1).1 = _
 generalize dget ar0 [1] 1 = p at *
 obtain ⟨SS, A⟩ := p
 have h1 : SS = [[1], [3]] := h1
 subst h1
 unfold drow
 have e : ([[1], [3]] : List (List Nat))[1]?.getD [] = [3] := rfl
 dsimp only
 rw [e, lets0 ((els3 0).2 (.inl rfl)), List.foldl_cons, List.foldl_cons, List.foldl_nil, dst1_known (nx1 ((els3 0).2 (.inl rfl))) (by simp), dst1_known (nx2 ((els3 0).2 (.inl rfl))) (by simp)]
def Det0 (w : World) (e : Ending) (w' : World) : Prop := ∃ A c A2 n2 c2 A3 n3 c3, e = .returned (.tuple #[.agg #[.slice A 2 c, .slice A2 n2 c2, .slice A3 n3 c3], .int .i64 0]) ∧ Below w.heap.size w w'
theorem det0 {w w' : World} {e : Ending} {L : Int} (hL : L = 10) (h : DetP 2 ar0 [0] [false, true] L w e w') : Det0 w e w' := by
 obtain ⟨k, SS, A, h1, h2, h3, _, _, _, _, _, hb, h4⟩ := h
 rw [s0_eq] at h1 h3
 have hk : k ≤ 2 := by
  apply Nat.le_of_not_lt
  intro hk
  have := (h3 2 hk).1
  rw [dget2] at this
  simp at this
 have e0 : (dget ar0 [1] 0).1 = [[1]] := rfl
 have e1 := dget1
 have e2 := dget2
 have hs : SS = (dget ar0 [1] k).1 := by rw [h1]
 have hk3 : k = 0 ∨ k = 1 ∨ k = 2 := by omega
 rcases h4 with ⟨h5, _⟩ | ⟨_, h6, vS, vF, vA, vals, rfl, hown, _, hF, hA⟩
 ·exfalso
  rcases hk3 with rfl | rfl | rfl
  ·rw [e0] at hs; rw [hs] at h5; simp at h5; omega
  ·rw [e1] at hs; rw [hs] at h5; simp at h5; omega
  ·rw [e2] at hs; rw [hs] at h5; simp at h5; omega
 ·have h7 : SS.length = 2 := by
   rcases hk3 with rfl | rfl | rfl
   ·rw [e0] at hs; rw [hs] at h6; simp at h6
   ·rw [e1] at hs; rw [hs] at h6; simp at h6
   ·exact h6.symm
  obtain ⟨A2, c2, rfl⟩ := own_shapeG hown
  obtain ⟨A3, c3, rfl⟩ := own_shapeG hF
  obtain ⟨A4, c4, rfl⟩ := own_shapeG hA
  rw [h7]
  exact ⟨A2, c2, A3, _, c3, A4, _, c4, rfl, hb⟩
/- The law package's awake. -/
open Go.RowKit

theorem lit_sl {α : Type} (f : α → Value) (w : World) (e : TypeId) (cs : Array Value) (n : Nat) (xs : List α) (hn : xs.length = n) (hc : cs.toList = xs.map f) (fr : Nat × Nat) : Sl f (w.alloc (.cells cs e fr)) (.slice (some ⟨w.heap.size, 0, none⟩) n n) xs := by
 refine .inr ⟨⟨w.heap.size, 0, none⟩, n, by rw [hn], by omega, fun j b hj => ?_⟩
 rw [addr_lit0, cell_of_row _ w.heap.size j _ _ _ (heap_alloc_new w _), ← Array.getElem?_toList, hc]
 simp [hj]
theorem below_alloc (w : World) (o : Obj) : Below w.heap.size w (w.alloc o) := (Below.refl _ w).alloc (Nat.le_refl _) o
theorem lit_acs (w : World) (e : TypeId) (fr : Nat × Nat) : Acs (w.alloc (.cells #[.int .i64 0, .int .i64 1, .int .i64 0, .int .i64 0, .int .i64 2, .int .i64 0, .int .i64 0, .int .i64 2, .int .i64 1] e fr)) (.slice (some ⟨w.heap.size, 0, none⟩) 3 3) ar0 := by
 refine .inr ⟨⟨w.heap.size, 0, none⟩, 3, rfl, by simp [ar0], fun j x hj => ?_⟩
 have hb := heap_alloc_new w (.cells #[.int .i64 0, .int .i64 1, .int .i64 0, .int .i64 0, .int .i64 2, .int .i64 0, .int .i64 0, .int .i64 2, .int .i64 1] e fr)
 have hj3 : j < 3 := by have := (List.getElem?_eq_some_iff.1 hj).1; simpa [ar0] using this
 unfold Ak
 rw [addr_lit0, cell_of_row _ _ (j * 3) _ _ _ hb, cell_of_row _ _ (j * 3 + 1) _ _ _ hb, cell_of_row _ _ (j * 3 + 2) _ _ _ hb]
 match j, hj3, hj with
 | 0, _, hj => cases hj; exact ⟨rfl, rfl, rfl⟩
 | 1, _, hj => cases hj; exact ⟨rfl, rfl, rfl⟩
 | 2, _, hj => cases hj; exact ⟨rfl, rfl, rfl⟩
/-- The example lies in memory. -/
structure Ex0 (w : World) (g : Nat) (vs vf va : Value) : Prop where
 box : w.heap[g]? = some (.cells #[.int .i64 2, vs, vf, va] 32 (0, 0))
 st : Sl iv w vs [0]
 fin : Sl bl w vf [false, true]
 ar : Acs w va ar0
 tab : Tab w
theorem Ex0.below {w w' : World} {g : Nat} {vs vf va : Value} (h : Ex0 w g vs vf va) (hb : Below w.heap.size w w') : Ex0 w' g vs vf va := ⟨(hb.block _ (lt_of_some h.box)).trans h.box, h.st.below hb, h.fin.below hb, h.ar.below hb, h.tab.below hb h.tab.size⟩
def AccT (b : Bool) (w : World) (e : Ending) (w' : World) : Prop := e = .returned (.tuple #[.bool b, .int .i64 0]) ∧ Below w.heap.size w w'
theorem acc_ex {w : World} {g : Nat} {vs vf va : Value} (h : Ex0 w g vs vf va) (word : List Int) (b : Bool) (A : Option Addr) (c : Nat) (hl : Sl iv w (.slice A word.length c) word) (hw : word.length ≤ 1000) (hb : b = true ↔ AccP [0] [false, true] ar0 word) :
  Calls Tryd.prog 17 #[.agg #[.int .i64 2, vs, vf, va], .slice A word.length c] w (AccT b w) :=
 (accepts_ok 2 [0] [false, true] ar0 vs vf va A c word w vn0 h.st h.fin h.ar hl (by omega) h.tab).mono fun e w' ⟨b2, he, hb2, hbl⟩ => by
  have : b2 = b := by rw [Bool.eq_iff_iff, hb2, hb]
  subst this
  exact ⟨he, hbl⟩
theorem det_ex {w : World} {g : Nat} {vs vf va : Value} (h : Ex0 w g vs vf va) : Calls Tryd.prog 19 #[.agg #[.int .i64 2, vs, vf, va], .int .i64 10] w (Det0 w) :=
 (det_any 2 [0] [false, true] ar0 vs vf va 10 w vn0 h.st h.fin h.ar h.tab).mono fun _ _ h => det0 (by decide) h
theorem valid_ex {w : World} {g : Nat} {vs vf va : Value} (h : Ex0 w g vs vf va) : Calls Tryd.prog 20 #[.agg #[.int .i64 2, vs, vf, va]] w (fun e w' => e = .returned (.bool true) ∧ Below w.heap.size w w') :=
 valid_ok 2 [0] [false, true] ar0 vs vf va w vn0 h.st h.fin h.ar
theorem aw12 {W : World} {g n : Nat} {vs vf va : Value} (h : Ex0 W g vs vf va) (hn : n = W.heap.size) : Calls Tryd.prog 17 #[.agg #[.int .i64 2, vs, vf, va], .slice (some ⟨n, 0, none⟩) 2 2] (W.alloc (.cells #[.int .i64 1, .int .i64 2] 3)) (AccT true (W.alloc (.cells #[.int .i64 1, .int .i64 2] 3))) := by
 subst hn
 exact acc_ex (h.below (below_alloc W _)) [1, 2] true _ 2 (lit_sl iv W 3 _ 2 [1, 2] rfl rfl _) (by decide) ⟨fun _ => acc12, fun _ => rfl⟩
theorem aw21 {W : World} {g : Nat} {vs vf va : Value} (h : Ex0 W g vs vf va) : Calls Tryd.prog 17 #[.agg #[.int .i64 2, vs, vf, va], .slice (some ⟨W.heap.size, 0, none⟩) 2 2] (W.alloc (.cells #[.int .i64 2, .int .i64 1] 3)) (AccT false (W.alloc (.cells #[.int .i64 2, .int .i64 1] 3))) :=
 acc_ex (h.below (below_alloc W _)) [2, 1] false _ 2 (lit_sl iv W 3 _ 2 [2, 1] rfl rfl _) (by decide) ⟨(fun h => by cases h), fun h => absurd h acc21⟩
set_option maxRecDepth 100000 in
set_option maxHeartbeats 4000000 in
theorem awake_any (w : World) (hT : Tab w) : Calls Tryd.prog 5 #[] w (fun e w' => e = .returned (.bool true) ∧ Below w.heap.size w w') := by
 have hT0 := hT.size
 obtain ⟨W, hW⟩ : ∃ W, W = (((w.alloc (.cells #[.int .i64 0] 3)).alloc (.cells #[.bool false, .bool true] 4)).alloc (.cells #[.int .i64 0, .int .i64 1, .int .i64 0, .int .i64 0, .int .i64 2, .int .i64 0, .int .i64 0, .int .i64 2, .int .i64 1] 52)).alloc (.cells #[.int .i64 2, .slice (some ⟨w.heap.size, 0, none⟩) 1 1, .slice (some ⟨w.heap.size + 1, 0, none⟩) 2 2, .slice (some ⟨w.heap.size + 1 + 1, 0, none⟩) 3 3] 32) := ⟨_, rfl⟩
 have hb : Below w.heap.size w W := by rw [hW]; exact ((((Below.refl _ w).alloc (Nat.le_refl _) _).alloc (by simp) _).alloc (by simp; omega) _).alloc (by simp; omega) _
 have hx : Ex0 W (w.heap.size + 1 + 1 + 1) (.slice (some ⟨w.heap.size, 0, none⟩) 1 1) (.slice (some ⟨w.heap.size + 1, 0, none⟩) 2 2) (.slice (some ⟨w.heap.size + 1 + 1, 0, none⟩) 3 3) := by
  have h1 := lit_sl iv w 3 #[.int .i64 0] 1 [0] rfl rfl (0, 0)
  have h2 := lit_sl bl (w.alloc (.cells #[.int .i64 0] 3)) 4 #[.bool false, .bool true] 2 [false, true] rfl rfl (0, 0)
  have h3 := lit_acs ((w.alloc (.cells #[.int .i64 0] 3)).alloc (.cells #[.bool false, .bool true] 4)) 52 (0, 0)
  have h4 := heap_alloc_new (((w.alloc (.cells #[.int .i64 0] 3)).alloc (.cells #[.bool false, .bool true] 4)).alloc (.cells #[.int .i64 0, .int .i64 1, .int .i64 0, .int .i64 0, .int .i64 2, .int .i64 0, .int .i64 0, .int .i64 2, .int .i64 1] 52)) (.cells #[.int .i64 2, .slice (some ⟨w.heap.size, 0, none⟩) 1 1, .slice (some ⟨w.heap.size + 1, 0, none⟩) 2 2, .slice (some ⟨w.heap.size + 1 + 1, 0, none⟩) 3 3] 32)
  simp only [World.size_alloc] at h2 h3 h4
  rw [hW]
  exact ⟨h4, ((h1.below (below_alloc _ _)).below (below_alloc _ _)).below (below_alloc _ _), (h2.below (below_alloc _ _)).below (below_alloc _ _), h3.below (below_alloc _ _), (((hT.below (below_alloc _ _) hT0).below (below_alloc _ _) (by simp)).below (below_alloc _ _) (by simp)).below (below_alloc _ _) (by simp)⟩
 have HWs := Lib.hid (show w.heap.size + 1 + 1 + 1 + 1 = W.heap.size by rw [hW]; simp)
 have HB := Lib.hid hb; have HX := Lib.hid hx; have HW := Lib.hid hW
 clear hb hx hW hT
 have KC := Lib.hid (show ∀ (w' : World) (g : Nat) (a b c d : Value), w'.heap[g]? = some (.cells #[a, b, c, d] 32 (0, 0)) → w'.cell? ⟨g, 0, none⟩ = some a ∧ w'.cell? ⟨g, 1, none⟩ = some b ∧ w'.cell? ⟨g, 2, none⟩ = some c ∧ w'.cell? ⟨g, 3, none⟩ = some d from fun w' g a b c d g1 => ⟨cell_of_row _ _ 0 _ _ _ g1, cell_of_row _ _ 1 _ _ _ g1, cell_of_row _ _ 2 _ _ _ g1, cell_of_row _ _ 3 _ _ _ g1⟩)
 go_enter Tryd.func5, Tryd.ntmps5
 go_wp2_with fail
 rw [← HW.out]
 refine (aw12 HX.out HWs.out).mono ?_
 rintro e w1 ⟨rfl, hb1⟩
 replace hb1 := below_ext2 (below_alloc W _) hb1
 have HX1 := Lib.hid (HX.out.below hb1); have HB1 := Lib.hid (below_ext2 HB.out hb1)
 clear hb1
 obtain ⟨x0, x1, x2, x3⟩ := KC.out _ _ _ _ _ _ HX1.out.box
 go_wp2_with fail
 refine (aw21 HX1.out).mono ?_
 rintro e w2 ⟨rfl, hb1⟩
 replace hb1 := below_ext2 (below_alloc w1 _) hb1
 have HX2 := Lib.hid (HX1.out.below hb1); have HB2 := Lib.hid (below_ext2 HB1.out hb1)
 clear hb1 x0 x1 x2 x3
 obtain ⟨x0, x1, x2, x3⟩ := KC.out _ _ _ _ _ _ HX2.out.box
 go_wp2_with fail
 refine (det_ex HX2.out).mono ?_
 rintro e w3 ⟨As, cs, A2, n2, c2, A3, n3, c3, rfl, hb1⟩
 have HX3 := Lib.hid (HX2.out.below hb1); have HB3 := Lib.hid (below_ext2 HB2.out hb1)
 clear hb1 x0 x1 x2 x3
 obtain ⟨x0, x1, x2, x3⟩ := KC.out _ _ _ _ _ _ HX3.out.box
 have hb4 := below_alloc w3 (.cells #[.slice As 2 cs, .slice A2 n2 c2, .slice A3 n3 c3] 55)
 have HX4 := Lib.hid (HX3.out.below hb4); have HB4 := Lib.hid (below_ext2 HB3.out hb4)
 clear hb4
 have hlt := lt_of_some HX3.out.box
 obtain ⟨y0, y1, y2, y3⟩ := KC.out _ _ _ _ _ _ HX4.out.box
 go_wp2_with fail
 refine (valid_ex HX4.out).mono ?_
 rintro e w5 ⟨rfl, hb5⟩
 have HB5 := Lib.hid (below_ext2 HB4.out hb5)
 clear hb5 x0 x1 x2 x3 y0 y1 y2 y3
 go_wp2
 go_ret
 exact ⟨rfl, HB5.out⟩
end Go.Proofs.YtockgbilbnheaaaDoor
