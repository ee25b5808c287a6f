/- The readers' contracts: Event. -/
import Derived.Test.YtlimaefgifgegaaWireEv
namespace Go.Proofs.Ytlimaefgifgegaa
open Go.RowKit

def ev0 : Ev := (0, false, 0, 0, [])
def EPost (w : World) (g : Nat) (A : Option Addr) (n c : Nat) (xs : List Nat) (z : Ev × Nat × Bool) (e : Ending) (w' : World) : Prop :=
  ∃ v, e = .returned (.agg #[.int .i64 z.1.1, .bool z.1.2.1, .int .i64 z.1.2.2.1, .int .i64 z.1.2.2.2.1, v]) ∧ VRow w.heap.size w' v z.1.2.2.2.2 ∧ Rdr w' g A n c xs z.2.1 z.2.2 ∧ Only g w w'
section
variable {w : World} {g n c k : Nat} {A : Option Addr} {xs : List Nat} {fl : Bool}
set_option maxHeartbeats 1000000 in
theorem whole_ev_t (h : Rdr w g A n c xs k true) :
    Calls Try.prog 43 #[.pointer (some ⟨g, 0, none⟩), .func (.func 44) #[.pointer (some ⟨g, 0, none⟩)] #[]] w (EPost w g A n c xs (ev0, k, true)) := by
  have hbel : Below w.heap.size w ((w.alloc (.cells #[.int .i64 0, .bool false, .int .i64 0, .int .i64 0, .slice none 0 0] 45)).alloc (.cells #[.int .i64 0, .bool false, .int .i64 0, .int .i64 0, .slice none 0 0] 45)) := ((Below.refl _ w).alloc (Nat.le_refl _) _).alloc (by simp) _
  have H := Lib.hid (h.below hbel)
  have Ho := Lib.hid ((Only.refl g w).below hbel); clear h hbel
  go_enter Try.func43, Try.ntmps43
  go_wp2_with (go_at_call 37; refine (stopped_any H.out).mono ?_; rintro e w' ⟨rfl, rfl⟩)
  refine bodyPost_ret (v := .agg #[.int .i64 0, .bool false, .int .i64 0, .int .i64 0, .slice none 0 0]) (results_cell_row Try.results43 _ _ w.heap.size 45 _ (0, 0) _ rfl (heap_alloc_2 w _ _) Try.underlying45 rfl (by kernel_rfl)) rfl ?_
  exact ⟨_, rfl, VRow.nil _ _, H.out, Ho.out⟩
set_option maxHeartbeats 2000000 in
theorem whole_ev_f (h : Rdr w g A n c xs k false) :
    Calls Try.prog 43 #[.pointer (some ⟨g, 0, none⟩), .func (.func 44) #[.pointer (some ⟨g, 0, none⟩)] #[]] w (EPost w g A n c xs (out ev0 false k (pEvent xs k))) := by
  have hof := h.off
  have hg := h.lt
  have Hold := Lib.hid h.old
  have hbel : Below w.heap.size w ((w.alloc (.cells #[.int .i64 0, .bool false, .int .i64 0, .int .i64 0, .slice none 0 0] 45)).alloc (.cells #[.int .i64 0, .bool false, .int .i64 0, .int .i64 0, .slice none 0 0] 45)) := ((Below.refl _ w).alloc (Nat.le_refl _) _).alloc (by simp) _
  have h2 := h.below hbel
  have c1 := h2.cell 1
  have H := Lib.hid h2
  have Ho := Lib.hid ((Only.refl g w).below hbel); clear h h2 hbel
  go_enter Try.func43, Try.ntmps43
  go_wp2_with (go_at_call 37; refine (stopped_any H.out).mono ?_; rintro e w' ⟨rfl, rfl⟩)
  refine (event_raw H.out).mono ?_
  rintro e w1 ⟨x0, x1, x2, x3, v, l, k', fl', rfl, hV, hR, ho, hm⟩
  obtain ⟨Av, cv, rfl⟩ := hV.shape
  have hb0 := (ho.block w.heap.size (by simp; omega) (by omega)).trans (heap_alloc_2 w _ _)
  have hb1 := (ho.block (w.heap.size + 1) (by simp) (by omega)).trans (heap_alloc_2' w _ _)
  have d2 := hR.cell 2
  have d1 := hR.cell 1
  have f1 := hR.free 1
  have r0 := cell_of_row w1 w.heap.size 0 _ _ _ hb0
  have r1 := cell_of_row w1 w.heap.size 1 _ _ _ hb0
  have r2 := cell_of_row w1 w.heap.size 2 _ _ _ hb0
  have r3 := cell_of_row w1 w.heap.size 3 _ _ _ hb0
  have r4 := cell_of_row w1 w.heap.size 4 _ _ _ hb0
  have fr : ∀ i, w1.frozen? ⟨w.heap.size, i, none⟩ = false := fun i => frozen_of_row w1 _ i _ _ hb0
  have n0 := cell_of_row w1 (w.heap.size + 1) 0 _ _ _ hb1
  have n1 := cell_of_row w1 (w.heap.size + 1) 1 _ _ _ hb1
  have n2 := cell_of_row w1 (w.heap.size + 1) 2 _ _ _ hb1
  have n3 := cell_of_row w1 (w.heap.size + 1) 3 _ _ _ hb1
  have n4 := cell_of_row w1 (w.heap.size + 1) 4 _ _ _ hb1
  have hlt := lt_of_some hb1
  have hlt0 := lt_of_some hb0
  have hg1 := hR.lt
  have hne3 : ¬ g = w.heap.size := by omega
  have hne4 : ¬ w.heap.size = g := by omega
  have hne5 : ¬ w.heap.size + 1 = g := by omega
  have hne6 : ¬ w.heap.size + 1 = w.heap.size := by omega
  have Hb0 := Lib.hid hb0
  have hbase : w.heap.size < ((w.alloc (.cells #[.int .i64 0, .bool false, .int .i64 0, .int .i64 0, .slice none 0 0] 45)).alloc (.cells #[.int .i64 0, .bool false, .int .i64 0, .int .i64 0, .slice none 0 0] 45)).heap.size := by simp; omega
  have HR := Lib.hid hR; have Ho1 := Lib.hid (Ho.out.trans ho); have HV := Lib.hid hV
  clear hR ho hb0 hb1 c1 hV
  cases hp : pEvent xs k with
  | some o =>
    obtain ⟨t, k1⟩ := o
    rw [hp] at hm
    obtain ⟨rfl, rfl, rfl⟩ := hm
    have Hp := Lib.hid hp; clear hp
    go_wp2
    refine bodyPost_ret (v := .agg #[.int .i64 x0, .bool x1, .int .i64 x2, .int .i64 x3, .slice Av l.length cv]) (results_cell_row Try.results43 _ _ w.heap.size 45 _ (0, 0) _ rfl ((Below.heap_alloc _ _ _ (by simpa [World.setCell] using hlt0)).trans (heap_set5 Hb0.out _ _ _ _ _)) Try.underlying45 rfl (by kernel_rfl)) rfl ?_
    rw [out_some Hp.out]
    refine ⟨.slice Av l.length cv, rfl, ?_, ?_, ?_⟩
    · exact (World.ownsRow.alloc (show World.ownsRow _ _ _ _ _ _ _ from (((((HV.out.set ⟨w.heap.size, 0, none⟩ (.int .i64 x0) (by show w.heap.size < _; omega)).set ⟨w.heap.size, 1, none⟩ (.bool x1) (by show w.heap.size < _; omega)).set ⟨w.heap.size, 2, none⟩ (.int .i64 x2) (by show w.heap.size < _; omega)).set ⟨w.heap.size, 3, none⟩ (.int .i64 x3) (by show w.heap.size < _; omega)).set ⟨w.heap.size, 4, none⟩ (.slice Av l.length cv) (by show w.heap.size < _; omega)).mono (Nat.le_of_lt hbase)) _)
    · exact ((((((HR.out.setNew hg Hold.out (p := ⟨w.heap.size, 0, none⟩) (by show w.heap.size ≤ w.heap.size; omega) (.int .i64 x0)).setNew hg Hold.out (p := ⟨w.heap.size, 1, none⟩) (by show w.heap.size ≤ w.heap.size; omega) (.bool x1)).setNew hg Hold.out (p := ⟨w.heap.size, 2, none⟩) (by show w.heap.size ≤ w.heap.size; omega) (.int .i64 x2)).setNew hg Hold.out (p := ⟨w.heap.size, 3, none⟩) (by show w.heap.size ≤ w.heap.size; omega) (.int .i64 x3)).setNew hg Hold.out (p := ⟨w.heap.size, 4, none⟩) (by show w.heap.size ≤ w.heap.size; omega) (.slice Av l.length cv))).below ((Below.refl _ _).alloc (Nat.le_refl _) _)
    · exact ((((((Ho1.out.setNew (p := ⟨w.heap.size, 0, none⟩) (by show w.heap.size ≤ w.heap.size; omega) (.int .i64 x0)).setNew (p := ⟨w.heap.size, 1, none⟩) (by show w.heap.size ≤ w.heap.size; omega) (.bool x1)).setNew (p := ⟨w.heap.size, 2, none⟩) (by show w.heap.size ≤ w.heap.size; omega) (.int .i64 x2)).setNew (p := ⟨w.heap.size, 3, none⟩) (by show w.heap.size ≤ w.heap.size; omega) (.int .i64 x3)).setNew (p := ⟨w.heap.size, 4, none⟩) (by show w.heap.size ≤ w.heap.size; omega) (.slice Av l.length cv))).alloc _
  | none =>
    rw [hp] at hm
    simp only at hm
    subst hm
    have Hp := Lib.hid hp; clear hp
    go_wp2
    refine bodyPost_ret (v := .agg #[.int .i64 0, .bool false, .int .i64 0, .int .i64 0, .slice none 0 0]) (results_cell_row Try.results43 _ _ w.heap.size 45 _ (0, 0) _ rfl ((Below.heap_alloc _ _ _ (by simpa [World.setCell] using hlt0)).trans (heap_set5 ((Below.heap_setCell _ _ _ _ hne4).trans Hb0.out) _ _ _ _ _)) Try.underlying45 rfl (by kernel_rfl)) rfl ?_
    rw [out_none Hp.out]
    refine ⟨.slice none 0 0, rfl, VRow.nil _ _, ?_, ?_⟩
    · exact (((((((HR.out.go k hof).setNew hg Hold.out (p := ⟨w.heap.size, 0, none⟩) (by show w.heap.size ≤ w.heap.size; omega) (.int .i64 0)).setNew hg Hold.out (p := ⟨w.heap.size, 1, none⟩) (by show w.heap.size ≤ w.heap.size; omega) (.bool false)).setNew hg Hold.out (p := ⟨w.heap.size, 2, none⟩) (by show w.heap.size ≤ w.heap.size; omega) (.int .i64 0)).setNew hg Hold.out (p := ⟨w.heap.size, 3, none⟩) (by show w.heap.size ≤ w.heap.size; omega) (.int .i64 0)).setNew hg Hold.out (p := ⟨w.heap.size, 4, none⟩) (by show w.heap.size ≤ w.heap.size; omega) (.slice none 0 0))).below ((Below.refl _ _).alloc (Nat.le_refl _) _)
    · exact (((((((Ho1.out.set 1 (.int .i64 (k : Int))).setNew (p := ⟨w.heap.size, 0, none⟩) (by show w.heap.size ≤ w.heap.size; omega) (.int .i64 0)).setNew (p := ⟨w.heap.size, 1, none⟩) (by show w.heap.size ≤ w.heap.size; omega) (.bool false)).setNew (p := ⟨w.heap.size, 2, none⟩) (by show w.heap.size ≤ w.heap.size; omega) (.int .i64 0)).setNew (p := ⟨w.heap.size, 3, none⟩) (by show w.heap.size ≤ w.heap.size; omega) (.int .i64 0)).setNew (p := ⟨w.heap.size, 4, none⟩) (by show w.heap.size ≤ w.heap.size; omega) (.slice none 0 0))).alloc _
theorem whole_ev (h : Rdr w g A n c xs k fl) : Calls Try.prog 43 #[.pointer (some ⟨g, 0, none⟩), .func (.func 44) #[.pointer (some ⟨g, 0, none⟩)] #[]] w (EPost w g A n c xs (out ev0 fl k (pEvent xs k))) := by
  cases fl with
  | true => exact whole_ev_t h
  | false => exact whole_ev_f h
set_option maxHeartbeats 1000000 in
theorem event_any (h : Rdr w g A n c xs k fl) :
    Calls Try.prog 23 #[.pointer (some ⟨g, 0, none⟩)] w (EPost w g A n c xs (out ev0 fl k (pEvent xs k))) := by
  have hg := h.lt
  have Hold := Lib.hid h.old
  have hbel : Below w.heap.size w (w.alloc (.cells #[.int .i64 0, .bool false, .int .i64 0, .int .i64 0, .slice none 0 0] 45)) := (Below.refl _ w).alloc (Nat.le_refl _) _
  have H := Lib.hid (h.below hbel)
  have Ho := Lib.hid ((Only.refl g w).below hbel); clear h hbel
  obtain ⟨r, hr⟩ : ∃ r, r = out ev0 fl k (pEvent xs k) := ⟨_, rfl⟩
  rw [← hr]
  have Hr := Lib.hid hr; clear hr
  go_enter Try.func23, Try.ntmps23
  go_wp2_with fail
  refine (whole_ev H.out).mono ?_
  rw [← Hr.out]
  rintro e w1 ⟨v, rfl, hV, hR, ho⟩
  obtain ⟨⟨x0, x1, x2, x3, l⟩, k', fl'⟩ := r
  obtain ⟨Av, cv, rfl⟩ := hV.shape
  have hb0 := (ho.block w.heap.size (by simp) (by omega)).trans (heap_alloc_new w _)
  have r0 := cell_of_row w1 w.heap.size 0 _ _ _ hb0
  have r1 := cell_of_row w1 w.heap.size 1 _ _ _ hb0
  have r2 := cell_of_row w1 w.heap.size 2 _ _ _ hb0
  have r3 := cell_of_row w1 w.heap.size 3 _ _ _ hb0
  have r4 := cell_of_row w1 w.heap.size 4 _ _ _ hb0
  have fr : ∀ i, w1.frozen? ⟨w.heap.size, i, none⟩ = false := fun i => frozen_of_row w1 _ i _ _ hb0
  have Hb0 := Lib.hid hb0
  have hbase : w.heap.size < (w.alloc (.cells #[.int .i64 0, .bool false, .int .i64 0, .int .i64 0, .slice none 0 0] 45)).heap.size := by simp
  have HR := Lib.hid hR; have Ho1 := Lib.hid (Ho.out.trans ho); have HV := Lib.hid hV
  clear hR ho hb0 Hr hV
  simp only
  go_wp2
  refine bodyPost_ret (v := .agg #[.int .i64 x0, .bool x1, .int .i64 x2, .int .i64 x3, .slice Av l.length cv]) (results_cell_row Try.results23 _ _ w.heap.size 45 _ (0, 0) _ rfl (heap_set5 Hb0.out _ _ _ _ _) Try.underlying45 rfl (by kernel_rfl)) rfl ?_
  refine ⟨.slice Av l.length cv, rfl, ?_, ?_, ?_⟩
  · exact (((((HV.out.set ⟨w.heap.size, 0, none⟩ (.int .i64 x0) (by show w.heap.size < _; omega)).set ⟨w.heap.size, 1, none⟩ (.bool x1) (by show w.heap.size < _; omega)).set ⟨w.heap.size, 2, none⟩ (.int .i64 x2) (by show w.heap.size < _; omega)).set ⟨w.heap.size, 3, none⟩ (.int .i64 x3) (by show w.heap.size < _; omega)).set ⟨w.heap.size, 4, none⟩ (.slice Av l.length cv) (by show w.heap.size < _; omega)).mono (Nat.le_of_lt hbase)
  · exact (((((HR.out.setNew hg Hold.out (p := ⟨w.heap.size, 0, none⟩) (by show w.heap.size ≤ w.heap.size; omega) (.int .i64 x0)).setNew hg Hold.out (p := ⟨w.heap.size, 1, none⟩) (by show w.heap.size ≤ w.heap.size; omega) (.bool x1)).setNew hg Hold.out (p := ⟨w.heap.size, 2, none⟩) (by show w.heap.size ≤ w.heap.size; omega) (.int .i64 x2)).setNew hg Hold.out (p := ⟨w.heap.size, 3, none⟩) (by show w.heap.size ≤ w.heap.size; omega) (.int .i64 x3)).setNew hg Hold.out (p := ⟨w.heap.size, 4, none⟩) (by show w.heap.size ≤ w.heap.size; omega) (.slice Av l.length cv))
  · exact (((((Ho1.out.setNew (p := ⟨w.heap.size, 0, none⟩) (by show w.heap.size ≤ w.heap.size; omega) (.int .i64 x0)).setNew (p := ⟨w.heap.size, 1, none⟩) (by show w.heap.size ≤ w.heap.size; omega) (.bool x1)).setNew (p := ⟨w.heap.size, 2, none⟩) (by show w.heap.size ≤ w.heap.size; omega) (.int .i64 x2)).setNew (p := ⟨w.heap.size, 3, none⟩) (by show w.heap.size ≤ w.heap.size; omega) (.int .i64 x3)).setNew (p := ⟨w.heap.size, 4, none⟩) (by show w.heap.size ≤ w.heap.size; omega) (.slice Av l.length cv))
end
end Go.Proofs.Ytlimaefgifgegaa
