/- The law package's awake and few (tools/vclaw_gen.py). -/
import Derived.Test.YtgfnhkipoicmiaaVcJn
import Derived.Test.YtgfnhkipoicmiaaLaw
namespace Go.Proofs.Ytgfnhkipoicmiaa
open Go.RowKit

theorem lit_sl {α : Type} (f : α → Value) (w : World) (e : TypeId) (cs : Array Value) (n : Nat) (xs : List α) (hn : xs.length = n) (hc : cs.toList = xs.map f) (fr : Nat × Nat) : Sl f (w.alloc (.cells cs e fr)) (.slice (some ⟨w.heap.size, 0, none⟩) n n) xs := by
  refine .inr ⟨⟨w.heap.size, 0, none⟩, n, by rw [hn], by omega, fun j b hj => ?_⟩
  have e' : (⟨w.heap.size, 0, none⟩ : Addr).add j = ⟨w.heap.size, j, none⟩ := by unfold Addr.add; split <;> simp_all
  rw [e', cell_of_row _ w.heap.size j _ _ _ (heap_alloc_new w _), ← Array.getElem?_toList, hc]
  simp [hj]
theorem below_alloc (w : World) (o : Obj) : Below w.heap.size w (w.alloc o) := (Below.refl _ w).alloc (Nat.le_refl _) o
theorem quiet_below {w w' : World} (h : ∃ m, w' = w.drewN m) : Below w.heap.size w w' := by obtain ⟨m, rfl⟩ := h; exact Below.drewNs w m
def fewB (n m : Nat) : Bool := decide (n ≤ 60 ∧ m ≤ 60)
theorem few_any (A A2 : Option Addr) (n m c c2 : Nat) (w : World) : Calls Try.prog 10 #[.slice A n c, .slice A2 m c2] w fun e w' => e = .returned (.bool (fewB n m)) ∧ w = w' := by
  obtain ⟨R, hR⟩ : ∃ R, R = fewB n m := ⟨_, rfl⟩
  rw [← hR]
  have HR := Lib.hid hR; clear hR
  unfold fewB at HR
  by_cases h1 : n ≤ 60
  · go_enter Try.func10, Try.ntmps10
    go_wp2
    go_ret
    refine ⟨ret_b ?_, rfl⟩
    rw [HR.out]
    by_cases h2 : m ≤ 60
    · rw [decide_eq_true (show n ≤ 60 ∧ m ≤ 60 from ⟨h1, h2⟩)]; exact decide_eq_true (by omega)
    · rw [decide_eq_false (show ¬ (n ≤ 60 ∧ m ≤ 60) from fun h => h2 h.2)]; exact decide_eq_false (by omega)
  · have hr : R = false := by rw [HR.out]; exact decide_eq_false (fun h => h1 h.1)
    subst hr
    go_enter Try.func10, Try.ntmps10
    go_wp2
    go_ret
    exact ⟨rfl, rfl⟩
def awP (l : List Int) (w : World) (e : Ending) (w' : World) : Prop := ∃ v, e = .returned (.tuple #[v, .int .i64 0]) ∧ w'.ownsRow w.heap.size 3 1 v l.length (l.map iv) ∧ Below w.heap.size w w'
def awQ (w : World) (e : Ending) (w' : World) : Prop := e = .returned (.bool true) ∧ ∃ m, w' = w.drewN m
theorem awP.of {R : List Int × Int} {l : List Int} (h : R = (l, 0)) {w : World} {e : Ending} {w' : World} (hm : MkP R w e w') : awP l w e w' := by subst h; exact hm
theorem aw1 (w : World) : Calls Try.prog 19 #[.slice (some ⟨w.heap.size, 0, none⟩) 2 2, .int .i64 0] (w.alloc (.cells #[.int .i64 0, .int .i64 2] 3)) (awP [1, 2] (w.alloc (.cells #[.int .i64 0, .int .i64 2] 3))) :=
  (tick_any _ [0, 2] 0 _ (lit_sl iv w 3 #[.int .i64 0, .int .i64 2] 2 [0, 2] rfl rfl (0, 0)) (by decide)).mono fun _ _ h => awP.of (by decide +kernel) h
theorem aw2 (w : World) (v : Value) (h : Sl iv w v [1, 2]) : Calls Try.prog 23 #[v, .slice (some ⟨w.heap.size, 0, none⟩) 2 2] (w.alloc (.cells #[.int .i64 0, .int .i64 5] 3)) (awP [1, 5] (w.alloc (.cells #[.int .i64 0, .int .i64 5] 3))) :=
  (join_any v _ [1, 2] [0, 5] _ (h.below (below_alloc _ _)) (lit_sl iv w 3 #[.int .i64 0, .int .i64 5] 2 [0, 5] rfl rfl (0, 0)) (by decide) (by decide)).mono fun _ _ h => awP.of (by decide +kernel) h
theorem aw3 (w : World) (v : Value) (h : Sl iv w v [1, 5]) : Calls Try.prog 17 #[v, .slice (some ⟨w.heap.size, 0, none⟩) 2 2] (w.alloc (.cells #[.int .i64 1, .int .i64 5] 3)) (awQ (w.alloc (.cells #[.int .i64 1, .int .i64 5] 3))) :=
  (equal_any v _ [1, 5] [1, 5] _ (h.below (below_alloc _ _)) (lit_sl iv w 3 #[.int .i64 1, .int .i64 5] 2 [1, 5] rfl rfl (0, 0)) (by decide) (by decide)).mono fun _ _ h => ⟨h.1.trans (ret_b (by decide +kernel)), h.2⟩
theorem aw4 (w : World) (v u : Value) (h : Sl iv w v [1, 2]) (h2 : Sl iv w u [1, 5]) : Calls Try.prog 13 #[v, u] w (awQ w) :=
  (before_any v u [1, 2] [1, 5] w h h2 (by decide) (by decide)).mono fun _ _ h => ⟨h.1.trans (ret_b (by decide +kernel)), h.2⟩
theorem aw5 (w : World) : Calls Try.prog 15 #[.slice (some ⟨w.heap.size, 0, none⟩) 2 2, .slice (some ⟨w.heap.size + 1, 0, none⟩) 2 2] ((w.alloc (.cells #[.int .i64 1, .int .i64 0] 3)).alloc (.cells #[.int .i64 0, .int .i64 1] 3)) (awQ ((w.alloc (.cells #[.int .i64 1, .int .i64 0] 3)).alloc (.cells #[.int .i64 0, .int .i64 1] 3))) := by
  have h2 := lit_sl iv (w.alloc (.cells #[.int .i64 1, .int .i64 0] 3)) 3 #[.int .i64 0, .int .i64 1] 2 [0, 1] rfl rfl (0, 0)
  rw [show (w.alloc (.cells #[.int .i64 1, .int .i64 0] 3)).heap.size = w.heap.size + 1 by simp] at h2
  exact (conc_any _ _ [1, 0] [0, 1] _ ((lit_sl iv w 3 #[.int .i64 1, .int .i64 0] 2 [1, 0] rfl rfl (0, 0)).below (below_alloc _ _)) h2 (by decide) (by decide)).mono fun _ _ h => ⟨h.1.trans (ret_b (by decide +kernel)), h.2⟩
theorem aw6 (w : World) (v : Value) (h : Sl iv w v [1, 5]) : Calls Try.prog 11 #[v] w (awQ w) :=
  (valid_any v [1, 5] w h (by decide)).mono fun _ _ h => ⟨h.1.trans (ret_b (by decide +kernel)), 0, h.2.symm⟩
set_option maxRecDepth 100000 in
set_option maxHeartbeats 2000000 in
theorem awake_any (w : World) : Calls Try.prog 9 #[] w (Ok w) := by
  have HB := Lib.hid (Below.refl w.heap.size w)
  go_enter Try.func9, Try.ntmps9
  go_wp2_with fail
  refine (aw1 w).mono ?_
  rintro e w1 ⟨v1, rfl, ho, hb⟩
  replace hb := (below_alloc w _).trans (hb.mono (by simp))
  replace HB := Lib.hid (HB.out.trans (hb.mono HB.out.size))
  have Ha := Lib.hid (Sl.of_own ho)
  clear ho hb
  go_wp2_with fail
  refine (aw2 w1 v1 Ha.out).mono ?_
  rintro e w2 ⟨v2, rfl, ho, hb⟩
  replace hb := (below_alloc w1 _).trans (hb.mono (by simp))
  replace HB := Lib.hid (HB.out.trans (hb.mono HB.out.size))
  have Hb := Lib.hid (Sl.of_own ho)
  replace Ha := Lib.hid (Ha.out.below hb)
  clear ho hb
  go_wp2_with fail
  refine (aw3 w2 v2 Hb.out).mono ?_
  rintro e w3 ⟨rfl, hq⟩
  have hb := (below_alloc w2 _).trans ((quiet_below hq).mono (by simp))
  replace HB := Lib.hid (HB.out.trans (hb.mono HB.out.size))
  replace Ha := Lib.hid (Ha.out.below hb)
  replace Hb := Lib.hid (Hb.out.below hb)
  clear hb hq
  go_wp2_with fail
  refine (aw4 w3 v1 v2 Ha.out Hb.out).mono ?_
  rintro e w4 ⟨rfl, hq⟩
  have hb := quiet_below hq
  replace HB := Lib.hid (HB.out.trans (hb.mono HB.out.size))
  replace Hb := Lib.hid (Hb.out.below hb)
  clear hb hq
  go_wp2_with fail
  refine (aw5 w4).mono ?_
  rintro e w5 ⟨rfl, hq⟩
  have hb := ((below_alloc w4 _).trans ((below_alloc _ _).mono (by simp))).trans ((quiet_below hq).mono (by simp; omega))
  replace HB := Lib.hid (HB.out.trans (hb.mono HB.out.size))
  replace Hb := Lib.hid (Hb.out.below hb)
  clear hb hq
  go_wp2_with fail
  refine (aw6 w5 v2 Hb.out).mono ?_
  rintro e w6 ⟨rfl, hq⟩
  have hb := quiet_below hq
  replace HB := Lib.hid (HB.out.trans (hb.mono HB.out.size))
  clear hb hq
  go_wp2
  go_ret
  exact ⟨rfl, HB.out⟩
end Go.Proofs.Ytgfnhkipoicmiaa
