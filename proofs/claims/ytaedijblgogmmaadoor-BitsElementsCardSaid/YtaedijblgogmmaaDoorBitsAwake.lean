/- The contracts of With and Without, and of the law package's awake and few. -/
import Derived.Test.YtaedijblgogmmaaDoorBitsMake
import Derived.Test.YtaedijblgogmmaaDoorBitsList
import Derived.Test.YtaedijblgogmmaaDoorBitsEq
import Derived.Test.YtaedijblgogmmaaDoorLaw
namespace Go.Proofs.YtaedijblgogmmaaDoor
open Go.RowKit

theorem lit_sl {α : Type} (f : α → Value) (w : World) (e : TypeId) (cs : Array Value) (n : Nat) (xs : List α) (hn : xs.length = n) (hc : cs.toList = xs.map f) (fr : Nat × Nat) : Sl f (w.alloc (.cells cs e fr)) (.slice (some ⟨w.heap.size, 0, none⟩) n n) xs := by
  refine .inr ⟨⟨w.heap.size, 0, none⟩, n, by rw [hn], by omega, fun j b hj => ?_⟩
  have e' : (⟨w.heap.size, 0, none⟩ : Addr).add j = ⟨w.heap.size, j, none⟩ := by unfold Addr.add; split <;> simp_all
  rw [e', cell_of_row _ w.heap.size j _ _ _ (heap_alloc_new w _), ← Array.getElem?_toList, hc]
  simp [hj]
theorem Sl.one (w : World) (n : Int) (e : TypeId) : Sl iv (w.alloc (.cells #[.int .i64 n] e)) (.slice (some ⟨w.heap.size, 0, none⟩) 1 1) [n] := lit_sl iv w e _ 1 [n] rfl rfl _
theorem Own.mono {B B' : Nat} {w : World} {v : Value} {xs : List Nat} (h : Own B w v xs) (hb : B' ≤ B) : Own B' w v xs := by
  obtain ⟨g, m, ys, e, ho, h1, h2⟩ := h
  refine ⟨g, m, ys, e, ?_, h1, h2⟩
  refine ⟨ho.1, ?_⟩
  rcases ho.2 with h | ⟨g', cap, cur, h3, h4, h5⟩
  · exact .inl h
  · exact .inr ⟨g', cap, cur, h3, Nat.le_trans hb h4, h5⟩
def withM (ws : List Nat) (n : Int) : List Nat := setop (fun x y => x ||| y) ws (mk [n])
def withoutM (ws : List Nat) (n : Int) : List Nat := setop andn ws (mk [n])
theorem with_any (v : Value) (ws : List Nat) (n : Int) (w : World) (h : Sl uv w v ws) (hl : Room2 ws.length) (hw : Wds ws) :
    Calls Tryd.prog 33 #[v, .int .i64 n] w (MadeP w (withM ws n)) := by
  have H := Lib.hid h; have Hl := Lib.hid hl; have Hw := Lib.hid hw
  clear h hl hw
  go_enter Tryd.func33, Tryd.ntmps33
  go_wp2_with fail
  refine (make_any _ [n] _ (Sl.one w n _) (by unfold Room2; simp)).mono ?_
  rintro e w1 ⟨v1, rfl, h1, hb1⟩
  have hb : Below w.heap.size w w1 := ((Below.refl _ w).alloc (Nat.le_refl _) _).trans (hb1.mono (by simp))
  have H1 := Lib.hid h1; have Hb := Lib.hid hb
  clear h1 hb1 hb
  go_wp2_with fail
  refine (union_any v v1 ws (mk [n]) _ (H.out.below Hb.out) H1.out Hl.out (by have := mk_len [n]; unfold Room2; omega) Hw.out (mk_wds _)).mono ?_
  rintro e w2 ⟨v2, rfl, h2, hb2⟩
  have H2 := Lib.hid h2; have Hb2 := Lib.hid hb2
  clear h2 hb2
  go_wp2
  go_ret
  exact ⟨_, rfl, H2.out.mono Hb.out.size, Hb.out.trans (Hb2.out.mono Hb.out.size)⟩
theorem without_any (v : Value) (ws : List Nat) (n : Int) (w : World) (h : Sl uv w v ws) (hl : Room2 ws.length) (hw : Wds ws) :
    Calls Tryd.prog 34 #[v, .int .i64 n] w (MadeP w (withoutM ws n)) := by
  have H := Lib.hid h; have Hl := Lib.hid hl; have Hw := Lib.hid hw
  clear h hl hw
  go_enter Tryd.func34, Tryd.ntmps34
  go_wp2_with fail
  refine (make_any _ [n] _ (Sl.one w n _) (by unfold Room2; simp)).mono ?_
  rintro e w1 ⟨v1, rfl, h1, hb1⟩
  have hb : Below w.heap.size w w1 := ((Below.refl _ w).alloc (Nat.le_refl _) _).trans (hb1.mono (by simp))
  have H1 := Lib.hid h1; have Hb := Lib.hid hb
  clear h1 hb1 hb
  go_wp2_with fail
  refine (minus_any v v1 ws (mk [n]) _ (H.out.below Hb.out) H1.out Hl.out (by have := mk_len [n]; unfold Room2; omega) Hw.out (mk_wds _)).mono ?_
  rintro e w2 ⟨v2, rfl, h2, hb2⟩
  have H2 := Lib.hid h2; have Hb2 := Lib.hid hb2
  clear h2 hb2
  go_wp2
  go_ret
  exact ⟨_, rfl, H2.out.mono Hb.out.size, Hb.out.trans (Hb2.out.mono Hb.out.size)⟩

theorem mk_ex : mk [5, 64, 5, -1] = [32, 1] := by decide +kernel
theorem els_ex : els [32, 1] = [5, 64] := by decide +kernel
set_option maxHeartbeats 400000 in
theorem awake_any (w : World) (hT : Tab w) : Calls Tryd.prog 11 #[] w (Ok w) := by
  have HT := Lib.hid hT; clear hT
  go_enter Tryd.func11, Tryd.ntmps11
  go_wp2_with fail
  refine (make_any _ [5, 64, 5, -1] _ (lit_sl iv w _ _ 4 _ rfl rfl _) (by unfold Room2; decide)).mono ?_
  rintro e w1 ⟨v1, rfl, h1, hb1⟩
  rw [mk_ex] at h1
  have hb : Below w.heap.size w w1 := ((Below.refl _ w).alloc (Nat.le_refl _) _).trans (hb1.mono (by simp))
  have H1 := Lib.hid h1; have Hb := Lib.hid hb
  clear h1 hb1 hb
  go_wp2_with fail
  refine (samewords_any v1 _ [32, 1] [32, 1] _ (H1.out.below ((Below.refl _ w1).alloc (Nat.le_refl _) _)) (lit_sl uv w1 _ _ 2 _ rfl rfl _) (by unfold Room2; decide) (by unfold Room2; decide)).mono ?_
  rintro e w2 ⟨rfl, m, rfl⟩
  rw [decide_eq_true (rfl : [32, 1] = [32, 1])]
  have hb2 := ((Hb.out.alloc Hb.out.size (.cells { toList := [uv 32, uv 1] } 52)))
  have Hb2 := Lib.hid (below_drewN hb2 m)
  clear hb2
  go_wp2_with fail
  refine (list_any v1 [32, 1] _ ((H1.out.below ((Below.refl _ w1).alloc (Nat.le_refl _) _)).drewN m) (by unfold Room2; decide) (by unfold Wds U64; decide) (HT.out.below Hb2.out HT.out.size)).mono ?_
  rintro e w2 ⟨v2, rfl, h2, hb2⟩
  rw [els_ex] at h2
  have H2 := Lib.hid h2
  have Hb3 := Lib.hid (Hb2.out.trans (hb2.mono Hb2.out.size))
  clear h2 hb2
  go_wp2_with fail
  refine (same_any v2 _ [5, 64] [5, 64] _ (H2.out.below ((Below.refl _ w2).alloc (Nat.le_refl _) _)) (lit_sl nv w2 _ _ 2 _ rfl rfl _) (by unfold Room2; decide) (by unfold Room2; decide)).mono ?_
  rintro e w3 ⟨rfl, m2, rfl⟩
  rw [decide_eq_true (rfl : [5, 64] = [5, 64])]
  go_wp2
  go_ret
  exact ⟨rfl, below_drewN (Hb3.out.alloc Hb3.out.size _) _⟩
theorem few_any (A B : Option Addr) (n m c d : Nat) (w : World) : Calls Tryd.prog 12 #[.slice A n c, .slice B m d] w fun e w' => e = .returned (.bool (decide (n ≤ 70 ∧ m ≤ 70))) ∧ w = w' := by
  by_cases hn : n ≤ 70
  · by_cases hm : m ≤ 70
    · rw [decide_eq_true ⟨hn, hm⟩]
      go_enter Tryd.func12, Tryd.ntmps12
      go_wp2
      go_ret
      exact ⟨congrArg (fun b => Ending.returned (Value.bool b)) (decide_eq_true (by omega)), rfl⟩
    · rw [decide_eq_false fun h => hm h.2]
      go_enter Tryd.func12, Tryd.ntmps12
      go_wp2
      go_ret
      exact ⟨congrArg (fun b => Ending.returned (Value.bool b)) (decide_eq_false (by omega)), rfl⟩
  · rw [decide_eq_false fun h => hn h.1]
    go_enter Tryd.func12, Tryd.ntmps12
    go_wp2
    go_ret
    exact ⟨rfl, rfl⟩
end Go.Proofs.YtaedijblgogmmaaDoor
