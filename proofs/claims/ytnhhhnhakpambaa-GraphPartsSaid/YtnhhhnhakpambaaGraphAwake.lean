/- The law package's awake. -/
import Derived.Test.YtnhhhnhakpambaaGraphFns
import Derived.Test.YtnhhhnhakpambaaGraphSame
namespace Go.Proofs.Ytnhhhnhakpambaa
open Go.RowKit

theorem row_new (w : World) (t : TypeId) (cs : List Value) : Row (w.alloc (.cells cs.toArray t)) w.heap.size t cs := heap_alloc_new w _
theorem row_new' (w : World) (t : TypeId) (cs : List Value) {g : Nat} (hg : g = w.heap.size) : Row (w.alloc (.cells cs.toArray t)) g t cs := by subst hg; exact row_new w t cs
theorem g0_mem (w : World) : Gr nv ((((w.alloc (.cells #[.int .i64 1] 3)).alloc (.cells #[.int .i64 2] 3)).alloc (.cells #[.int .i64 1, .int .i64 3] 3)).alloc
    (.cells #[.slice (some ⟨w.heap.size, 0, none⟩) 1 1, .slice (some ⟨w.heap.size + 1, 0, none⟩) 1 1, .slice (some ⟨w.heap.size + 1 + 1, 0, none⟩) 2 2, .slice none 0 0] 38)) (.slice (some ⟨w.heap.size + 1 + 1 + 1, 0, none⟩) 4 4) g0 := by
  have r1 := (((row_new w 3 [.int .i64 1]).keep (below_alloc _ (.cells #[.int .i64 2] 3))).keep (below_alloc _ (.cells #[.int .i64 1, .int .i64 3] 3))).keep (below_alloc _ (.cells #[.slice (some ⟨w.heap.size, 0, none⟩) 1 1, .slice (some ⟨w.heap.size + 1, 0, none⟩) 1 1, .slice (some ⟨w.heap.size + 1 + 1, 0, none⟩) 2 2, .slice none 0 0] 38))
  have r2 := ((row_new' (w.alloc (.cells #[.int .i64 1] 3)) 3 [.int .i64 2] (g := w.heap.size + 1) (by simp)).keep (below_alloc _ (.cells #[.int .i64 1, .int .i64 3] 3))).keep (below_alloc _ (.cells #[.slice (some ⟨w.heap.size, 0, none⟩) 1 1, .slice (some ⟨w.heap.size + 1, 0, none⟩) 1 1, .slice (some ⟨w.heap.size + 1 + 1, 0, none⟩) 2 2, .slice none 0 0] 38))
  have r3 := (row_new' ((w.alloc (.cells #[.int .i64 1] 3)).alloc (.cells #[.int .i64 2] 3)) 3 [.int .i64 1, .int .i64 3] (g := w.heap.size + 1 + 1) (by simp)).keep (below_alloc _ (.cells #[.slice (some ⟨w.heap.size, 0, none⟩) 1 1, .slice (some ⟨w.heap.size + 1, 0, none⟩) 1 1, .slice (some ⟨w.heap.size + 1 + 1, 0, none⟩) 2 2, .slice none 0 0] 38))
  have r4 := row_new' (((w.alloc (.cells #[.int .i64 1] 3)).alloc (.cells #[.int .i64 2] 3)).alloc (.cells #[.int .i64 1, .int .i64 3] 3)) 38 [.slice (some ⟨w.heap.size, 0, none⟩) 1 1, .slice (some ⟨w.heap.size + 1, 0, none⟩) 1 1, .slice (some ⟨w.heap.size + 1 + 1, 0, none⟩) 2 2, .slice none 0 0] (g := w.heap.size + 1 + 1 + 1) (by simp)
  refine ⟨[.slice (some ⟨w.heap.size, 0, none⟩) 1 1, .slice (some ⟨w.heap.size + 1, 0, none⟩) 1 1, .slice (some ⟨w.heap.size + 1 + 1, 0, none⟩) 2 2, .slice none 0 0], Row.sl (f := id) r4 rfl, rfl, fun i r l hr hl => ?_⟩
  match i, hr, hl with
  | 0, hr, hl => cases hr; cases hl; exact Row.sl (f := nv) (xs := [1]) r1 rfl
  | 1, hr, hl => cases hr; cases hl; exact Row.sl (f := nv) (xs := [2]) r2 rfl
  | 2, hr, hl => cases hr; cases hl; exact Row.sl (f := nv) (xs := [1, 3]) r3 rfl
  | 3, hr, hl => cases hr; cases hl; exact Sl.nil
  | i + 4, hr, _ => simp at hr
theorem c0_mem (w : World) : Gr nv ((((w.alloc (.cells #[.int .i64 0] 3)).alloc (.cells #[.int .i64 1, .int .i64 2] 3)).alloc (.cells #[.int .i64 3] 3)).alloc
    (.cells #[.slice (some ⟨w.heap.size, 0, none⟩) 1 1, .slice (some ⟨w.heap.size + 1, 0, none⟩) 2 2, .slice (some ⟨w.heap.size + 1 + 1, 0, none⟩) 1 1] 38)) (.slice (some ⟨w.heap.size + 1 + 1 + 1, 0, none⟩) 3 3) [[0], [1, 2], [3]] := by
  have r1 := (((row_new w 3 [.int .i64 0]).keep (below_alloc _ (.cells #[.int .i64 1, .int .i64 2] 3))).keep (below_alloc _ (.cells #[.int .i64 3] 3))).keep (below_alloc _ (.cells #[.slice (some ⟨w.heap.size, 0, none⟩) 1 1, .slice (some ⟨w.heap.size + 1, 0, none⟩) 2 2, .slice (some ⟨w.heap.size + 1 + 1, 0, none⟩) 1 1] 38))
  have r2 := ((row_new' (w.alloc (.cells #[.int .i64 0] 3)) 3 [.int .i64 1, .int .i64 2] (g := w.heap.size + 1) (by simp)).keep (below_alloc _ (.cells #[.int .i64 3] 3))).keep (below_alloc _ (.cells #[.slice (some ⟨w.heap.size, 0, none⟩) 1 1, .slice (some ⟨w.heap.size + 1, 0, none⟩) 2 2, .slice (some ⟨w.heap.size + 1 + 1, 0, none⟩) 1 1] 38))
  have r3 := (row_new' ((w.alloc (.cells #[.int .i64 0] 3)).alloc (.cells #[.int .i64 1, .int .i64 2] 3)) 3 [.int .i64 3] (g := w.heap.size + 1 + 1) (by simp)).keep (below_alloc _ (.cells #[.slice (some ⟨w.heap.size, 0, none⟩) 1 1, .slice (some ⟨w.heap.size + 1, 0, none⟩) 2 2, .slice (some ⟨w.heap.size + 1 + 1, 0, none⟩) 1 1] 38))
  have r4 := row_new' (((w.alloc (.cells #[.int .i64 0] 3)).alloc (.cells #[.int .i64 1, .int .i64 2] 3)).alloc (.cells #[.int .i64 3] 3)) 38 [.slice (some ⟨w.heap.size, 0, none⟩) 1 1, .slice (some ⟨w.heap.size + 1, 0, none⟩) 2 2, .slice (some ⟨w.heap.size + 1 + 1, 0, none⟩) 1 1] (g := w.heap.size + 1 + 1 + 1) (by simp)
  refine ⟨[.slice (some ⟨w.heap.size, 0, none⟩) 1 1, .slice (some ⟨w.heap.size + 1, 0, none⟩) 2 2, .slice (some ⟨w.heap.size + 1 + 1, 0, none⟩) 1 1], Row.sl (f := id) r4 rfl, rfl, fun i r l hr hl => ?_⟩
  match i, hr, hl with
  | 0, hr, hl => cases hr; cases hl; exact Row.sl (f := nv) (xs := [0]) r1 rfl
  | 1, hr, hl => cases hr; cases hl; exact Row.sl (f := nv) (xs := [1, 2]) r2 rfl
  | 2, hr, hl => cases hr; cases hl; exact Row.sl (f := nv) (xs := [3]) r3 rfl
  | i + 3, hr, _ => simp at hr
theorem lim_small {g : List (List Nat)} (h1 : g.length ≤ 1000) (h2 : ∀ l ∈ g, l.length ≤ 1000) : Lim g := by
  refine ⟨h1, fun i => ?_⟩
  rcases Nat.lt_or_ge i g.length with h | h
  · rw [row_get h]; exact h2 _ (List.getElem_mem h)
  · rw [row_big h]; simp
set_option maxHeartbeats 2000000 in
theorem awake_any (w : World) : Calls Try.prog 11 #[] w (Ok w) := by
  go_enter Try.func11, Try.ntmps11
  go_wp2_with fail
  have hg := g0_mem w
  have hb0 : Below w.heap.size w ((((w.alloc (.cells #[.int .i64 1] 3)).alloc (.cells #[.int .i64 2] 3)).alloc (.cells #[.int .i64 1, .int .i64 3] 3)).alloc (.cells #[.slice (some ⟨w.heap.size, 0, none⟩) 1 1, .slice (some ⟨w.heap.size + 1, 0, none⟩) 1 1, .slice (some ⟨w.heap.size + 1 + 1, 0, none⟩) 2 2, .slice none 0 0] 38)) :=
    ((((Below.refl _ w).alloc (Nat.le_refl _) _).alloc (by simp) _).alloc (by simp; omega) _).alloc (by simp; omega) _
  obtain ⟨v, hv⟩ : ∃ v, v = Value.slice (some ⟨w.heap.size + 1 + 1 + 1, 0, none⟩) 4 4 := ⟨_, rfl⟩
  generalize ((((w.alloc (.cells #[.int .i64 1] 3)).alloc (.cells #[.int .i64 2] 3)).alloc (.cells #[.int .i64 1, .int .i64 3] 3)).alloc (.cells #[.slice (some ⟨w.heap.size, 0, none⟩) 1 1, .slice (some ⟨w.heap.size + 1, 0, none⟩) 1 1, .slice (some ⟨w.heap.size + 1 + 1, 0, none⟩) 2 2, .slice none 0 0] 38)) = W at *
  have H := Lib.hid hg; have HB := Lib.hid hb0
  clear hg hb0 hv
  refine (comps_ok _ g0 _ H.out g0_vg).mono ?_
  rintro e w1 ⟨s, M, pv, h1, _, _, h4, _, _, rfl, h7, hb⟩
  have hm : compsM g0.length M = [[0], [1, 2], [3]] := comps_g0 h1 h4
  rw [hm] at h7
  obtain ⟨Ac, cc, rfl⟩ := h7.shape
  have Hc := Lib.hid h7
  replace HB := Lib.hid (HB.out.trans (hb.mono HB.out.size))
  replace H := Lib.hid (H.out.below hb)
  clear h1 h4 h7 hb hm
  go_wp2_with fail
  refine (dist_ok _ _ g0 [0] _ (H.out.below (below_alloc _ _)) g0_vg (lit_sl nv _ _ _ 1 [0] rfl rfl _) (by simp) (by simp [g0])).mono ?_
  rintro e w2 ⟨D, b, rfl, hD, hrow, hb⟩
  rw [dist_g0 hD] at hrow
  have hd : Sl iv w2 (.slice (some ⟨b, 0, none⟩) 4 4) [0, 1, 2, 3] := Row.sl hrow rfl
  have Hd := Lib.hid hd
  replace hb := (below_alloc w1 _).trans (hb.mono (by simp))
  replace HB := Lib.hid (HB.out.trans (hb.mono HB.out.size))
  replace H := Lib.hid (H.out.below hb)
  replace Hc := Lib.hid (Hc.out.below hb)
  clear hD hrow hb hd
  go_wp2_with fail
  refine (order_any _ g0 _ H.out g0_vg).mono ?_
  rintro e w3 (⟨l, v, hl, _⟩ | ⟨_, rfl, hb⟩)
  · rw [order_g0] at hl; cases hl
  replace HB := Lib.hid (HB.out.trans (hb.mono HB.out.size))
  replace Hc := Lib.hid (Hc.out.below hb)
  replace Hd := Lib.hid (Hd.out.below hb)
  clear hb
  go_wp2_with fail
  have hb : Below w3.heap.size w3 ((((w3.alloc (.cells #[.int .i64 0] 3)).alloc (.cells #[.int .i64 1, .int .i64 2] 3)).alloc (.cells #[.int .i64 3] 3)).alloc (.cells #[.slice (some ⟨w3.heap.size, 0, none⟩) 1 1, .slice (some ⟨w3.heap.size + 1, 0, none⟩) 2 2, .slice (some ⟨w3.heap.size + 1 + 1, 0, none⟩) 1 1] 38)) :=
    ((((Below.refl _ w3).alloc (Nat.le_refl _) _).alloc (by simp) _).alloc (by simp; omega) _).alloc (by simp; omega) _
  have hc0 := c0_mem w3
  have hc1 := Hc.out.below hb
  refine (rgsame_n hc1 hc0 (lim_small (by decide) (by decide)) (lim_small (by decide) (by decide))).mono ?_
  rintro e w4 ⟨rfl, hb4⟩
  replace hb := hb.trans (hb4.mono hb.size)
  replace HB := Lib.hid (HB.out.trans (hb.mono HB.out.size))
  replace Hd := Lib.hid (Hd.out.below hb)
  clear hb hb4 hc0 hc1
  rw [decide_eq_true (rfl : ([[0], [1, 2], [3]] : List (List Nat)) = [[0], [1, 2], [3]])]
  go_wp2_with fail
  refine (isame_b (a := [0, 1, 2, 3]) (b := [0, 1, 2, 3]) (Hd.out.below (below_alloc _ _)) (lit_sl iv _ _ _ 4 [0, 1, 2, 3] rfl rfl _) (by decide) (by decide)).mono ?_
  rintro e w5 ⟨rfl, hb5⟩
  rw [decide_eq_true (rfl : ([0, 1, 2, 3] : List Int) = [0, 1, 2, 3])]
  have Hb5 := Lib.hid (HB.out.trans (((below_alloc w4 _).trans (hb5.mono (by simp))).mono HB.out.size))
  clear hb5
  go_wp2
  go_ret
  exact ⟨rfl, Hb5.out⟩
end Go.Proofs.Ytnhhhnhakpambaa
