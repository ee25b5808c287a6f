/- The readers' contracts: Value. -/
import Derived.Test.YtlimaefgifgegaaWireValR
namespace Go.Proofs.Ytlimaefgifgegaa
open Go.RowKit

def vval (r : Vl × Nat × Bool) : Value × Nat × Bool := (vagg r.1, r.2)
section
variable {w : World} {g n c k : Nat} {A : Option Addr} {xs : List Nat} {fl : Bool}
set_option maxHeartbeats 1000000 in
theorem whole_value_t (h : Rdr w g A n c xs k true) :
    Calls Try.prog 64 #[.pointer (some ⟨g, 0, none⟩), .func (.func 65) #[.pointer (some ⟨g, 0, none⟩)] #[]] w
      (RPost w g A n c xs (vagg (0, 0, strOf []), k, true)) := by
  have hbel : Below w.heap.size w ((w.alloc (.cells #[.int .i64 0, .int .i64 0, .string ⟨#[]⟩] 56)).alloc (.cells #[.int .i64 0, .int .i64 0, .string ⟨#[]⟩] 56)) := ((Below.refl _ w).alloc (Nat.le_refl _) _).alloc (by simp) _
  have H := Lib.hid (h.below hbel)
  have Ho := Lib.hid ((Only.refl g w).below hbel); clear h hbel
  go_enter Try.func64, Try.ntmps64
  go_wp2_with (go_at_call 37; refine (stopped_any H.out).mono ?_; rintro e w' ⟨rfl, rfl⟩)
  exact bodyPost_ret (v := vagg (0, 0, strOf [])) (results_cell_row Try.results64 _ _ w.heap.size 56 _ (0, 0) _ rfl (heap_alloc_2 w _ _) Try.underlying56 rfl (by kernel_rfl)) rfl ⟨rfl, H.out, Ho.out⟩
set_option maxHeartbeats 1000000 in
theorem whole_value_f (h : Rdr w g A n c xs k false) :
    Calls Try.prog 64 #[.pointer (some ⟨g, 0, none⟩), .func (.func 65) #[.pointer (some ⟨g, 0, none⟩)] #[]] w
      (RPost w g A n c xs (vval (out (0, 0, strOf []) false k (pValue xs k)))) := by
  have hof := h.off
  have hg := h.lt
  have Hold := Lib.hid h.old
  have hbel : Below w.heap.size w ((w.alloc (.cells #[.int .i64 0, .int .i64 0, .string ⟨#[]⟩] 56)).alloc (.cells #[.int .i64 0, .int .i64 0, .string ⟨#[]⟩] 56)) := ((Below.refl _ w).alloc (Nat.le_refl _) _).alloc (by simp) _
  have h2 := h.below hbel
  have c1 := h2.cell 1
  have H := Lib.hid h2
  have Ho := Lib.hid ((Only.refl g w).below hbel); clear h h2 hbel
  go_enter Try.func64, Try.ntmps64
  go_wp2_with (go_at_call 37; refine (stopped_any H.out).mono ?_; rintro e w' ⟨rfl, rfl⟩)
  refine (value_raw H.out).mono ?_
  rintro e w1 ⟨x, k', fl', rfl, hR, ho, hm⟩
  have hb0 := (ho.block w.heap.size (by simp; omega) (by omega)).trans (heap_alloc_2 w _ _)
  have hb1 := (ho.block (w.heap.size + 1) (by simp) (by omega)).trans (heap_alloc_2' w _ _)
  have d2 := hR.cell 2
  have d1 := hR.cell 1
  have f1 := hR.free 1
  have r0 := cell_of_row w1 w.heap.size 0 _ _ _ hb0
  have r1 := cell_of_row w1 w.heap.size 1 _ _ _ hb0
  have r2 := cell_of_row w1 w.heap.size 2 _ _ _ hb0
  have fr : ∀ i, w1.frozen? ⟨w.heap.size, i, none⟩ = false := fun i => frozen_of_row w1 _ i _ _ hb0
  have n0 := cell_of_row w1 (w.heap.size + 1) 0 _ _ _ hb1
  have n1 := cell_of_row w1 (w.heap.size + 1) 1 _ _ _ hb1
  have n2 := cell_of_row w1 (w.heap.size + 1) 2 _ _ _ hb1
  have hlt := lt_of_some hb1
  have hlt0 := lt_of_some hb0
  have hg1 := hR.lt
  have hne3 : ¬ g = w.heap.size := by omega
  have hne4 : ¬ w.heap.size = g := by omega
  have hne5 : ¬ w.heap.size + 1 = g := by omega
  have hne6 : ¬ w.heap.size + 1 = w.heap.size := by omega
  have Hb0 := Lib.hid hb0
  have HR := Lib.hid hR; have Ho1 := Lib.hid (Ho.out.trans ho)
  obtain ⟨x0, x1, x2⟩ := x
  unfold vagg
  clear hR ho hb0 hb1 c1
  cases hp : pValue xs k with
  | some o =>
    obtain ⟨t, k1⟩ := o
    rw [hp] at hm
    obtain ⟨rfl, rfl, rfl⟩ := hm
    have Hp := Lib.hid hp; clear hp
    go_wp2
    refine bodyPost_ret (v := vagg (x0, x1, x2)) (results_cell_row Try.results64 _ _ w.heap.size 56 _ (0, 0) _ rfl ((Below.heap_alloc _ _ _ (by simpa [World.setCell] using hlt0)).trans (heap_set3 Hb0.out _ _ _)) Try.underlying56 rfl (by kernel_rfl)) rfl ?_
    rw [out_some Hp.out]
    refine ⟨rfl, ?_, ?_⟩
    · exact (((HR.out.setNew hg Hold.out (by show w.heap.size ≤ w.heap.size; omega) _).setNew hg Hold.out (by show w.heap.size ≤ w.heap.size; omega) _).setNew hg Hold.out (by show w.heap.size ≤ w.heap.size; omega) _).below ((Below.refl _ _).alloc (Nat.le_refl _) _)
    · exact (((Ho1.out.setNew (by show w.heap.size ≤ w.heap.size; omega) _).setNew (by show w.heap.size ≤ w.heap.size; omega) _).setNew (by show w.heap.size ≤ w.heap.size; omega) _).alloc _
  | none =>
    rw [hp] at hm
    simp only at hm
    subst hm
    have Hp := Lib.hid hp; clear hp
    go_wp2
    refine bodyPost_ret (v := vagg (0, 0, strOf [])) (results_cell_row Try.results64 _ _ w.heap.size 56 _ (0, 0) _ rfl ((Below.heap_alloc _ _ _ (by simpa [World.setCell] using hlt0)).trans (heap_set3 ((Below.heap_setCell _ _ _ _ hne4).trans Hb0.out) _ _ _)) Try.underlying56 rfl (by kernel_rfl)) rfl ?_
    rw [out_none Hp.out]
    refine ⟨rfl, ?_, ?_⟩
    · exact ((((HR.out.go k hof).setNew hg Hold.out (by show w.heap.size ≤ w.heap.size; omega) _).setNew hg Hold.out (by show w.heap.size ≤ w.heap.size; omega) _).setNew hg Hold.out (by show w.heap.size ≤ w.heap.size; omega) _).below ((Below.refl _ _).alloc (Nat.le_refl _) _)
    · exact ((((Ho1.out.set 1 _).setNew (by show w.heap.size ≤ w.heap.size; omega) _).setNew (by show w.heap.size ≤ w.heap.size; omega) _).setNew (by show w.heap.size ≤ w.heap.size; omega) _).alloc _
theorem whole_value (h : Rdr w g A n c xs k fl) :
    Calls Try.prog 64 #[.pointer (some ⟨g, 0, none⟩), .func (.func 65) #[.pointer (some ⟨g, 0, none⟩)] #[]] w
      (RPost w g A n c xs (vval (out (0, 0, strOf []) fl k (pValue xs k)))) := by
  cases fl with
  | true => exact whole_value_t h
  | false => exact whole_value_f h

set_option maxHeartbeats 1000000 in
theorem value_any (h : Rdr w g A n c xs k fl) :
    Calls Try.prog 62 #[.pointer (some ⟨g, 0, none⟩)] w (RPost w g A n c xs (vval (out (0, 0, strOf []) fl k (pValue xs k)))) := by
  have hg := h.lt
  have Hold := Lib.hid h.old
  have hbel : Below w.heap.size w (w.alloc (.cells #[.int .i64 0, .int .i64 0, .string ⟨#[]⟩] 56)) := (Below.refl _ w).alloc (Nat.le_refl _) _
  have H := Lib.hid (h.below hbel)
  have Ho := Lib.hid ((Only.refl g w).below hbel); clear h hbel
  obtain ⟨r, hr⟩ : ∃ r, r = out (0, 0, strOf []) fl k (pValue xs k) := ⟨_, rfl⟩
  rw [← hr]
  have Hr := Lib.hid hr; clear hr
  go_enter Try.func62, Try.ntmps62
  go_wp2_with fail
  refine (whole_value H.out).mono ?_
  rw [← Hr.out]
  rintro e w1 ⟨rfl, hR, ho⟩
  have hb0 := (ho.block w.heap.size (by simp) (by omega)).trans (heap_alloc_new w _)
  have r0 := cell_of_row w1 w.heap.size 0 _ _ _ hb0
  have r1 := cell_of_row w1 w.heap.size 1 _ _ _ hb0
  have r2 := cell_of_row w1 w.heap.size 2 _ _ _ hb0
  have fr : ∀ i, w1.frozen? ⟨w.heap.size, i, none⟩ = false := fun i => frozen_of_row w1 _ i _ _ hb0
  have Hb0 := Lib.hid hb0
  have HR := Lib.hid hR; have Ho1 := Lib.hid (Ho.out.trans ho)
  obtain ⟨⟨x0, x1, x2⟩, k', fl'⟩ := r
  clear hR ho hb0 Hr
  unfold vval vagg
  go_wp2
  refine bodyPost_ret (v := vagg (x0, x1, x2)) (results_cell_row Try.results62 _ _ w.heap.size 56 _ (0, 0) _ rfl (heap_set3 Hb0.out _ _ _) Try.underlying56 rfl (by kernel_rfl)) rfl ?_
  refine ⟨rfl, ?_, ?_⟩
  · exact ((HR.out.setNew hg Hold.out (by show w.heap.size ≤ w.heap.size; omega) _).setNew hg Hold.out (by show w.heap.size ≤ w.heap.size; omega) _).setNew hg Hold.out (by show w.heap.size ≤ w.heap.size; omega) _
  · exact ((Ho1.out.setNew (by show w.heap.size ≤ w.heap.size; omega) _).setNew (by show w.heap.size ≤ w.heap.size; omega) _).setNew (by show w.heap.size ≤ w.heap.size; omega) _
end
end Go.Proofs.Ytlimaefgifgegaa
