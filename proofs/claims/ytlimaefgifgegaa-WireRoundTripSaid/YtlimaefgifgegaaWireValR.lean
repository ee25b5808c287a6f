/- The readers' contracts: values. -/
import Derived.Test.YtlimaefgifgegaaWireText2
import Derived.Test.YtlimaefgifgegaaVals
namespace Go.Proofs.Ytlimaefgifgegaa
open Go.RowKit

def pValue (xs : List Nat) (k : Nat) : Option (Vl × Nat) :=
  match pInt xs k with
  | none => none
  | some (kd, k1) => if kd = 1 then (pInt xs k1).map (fun p => ((1, p.1, strOf []), p.2)) else if kd = 2 then (pText 40 xs k1).map (fun p => ((2, 0, p.1), p.2)) else none
def vagg (x : Vl) : Value := .agg #[.int .i64 x.1, .int .i64 x.2.1, .string x.2.2]
section
variable {w : World} {g n c k : Nat} {A : Option Addr} {xs : List Nat} {fl : Bool}
theorem int_some {z : Int} {k1 : Nat} (h : Rdr w g A n c xs k false) (e : pInt xs k = some (z, k1)) :
    Calls Try.prog 29 #[.pointer (some ⟨g, 0, none⟩)] w (RPost w g A n c xs (.int .i64 z, k1, false)) := by
  have := int_any h
  rwa [out_some e] at this
theorem int_fail (h : Rdr w g A n c xs k false) (e : pInt xs k = none) :
    Calls Try.prog 29 #[.pointer (some ⟨g, 0, none⟩)] w (RPost w g A n c xs (.int .i64 0, k, true)) := by
  have := int_any h
  rwa [out_none e] at this
theorem text_some {mx : Int} {t : ByteArray} {k1 : Nat} (h : Rdr w g A n c xs k false) (hm : mx ≤ 9223372036854775807) (e : pText mx xs k = some (t, k1)) :
    Calls Try.prog 19 #[.pointer (some ⟨g, 0, none⟩), .int .i64 mx] w (RPost w g A n c xs (.string t, k1, false)) := by
  have := text_any mx h hm
  rwa [out_some e] at this
theorem text_fail {mx : Int} (h : Rdr w g A n c xs k false) (hm : mx ≤ 9223372036854775807) (e : pText mx xs k = none) :
    Calls Try.prog 19 #[.pointer (some ⟨g, 0, none⟩), .int .i64 mx] w (RPost w g A n c xs (.string (strOf []), k, true)) := by
  have := text_any mx h hm
  rwa [out_none e] at this
def RawV (w : World) (g : Nat) (A : Option Addr) (n c : Nat) (xs : List Nat) (o : Option (Vl × Nat)) (e : Ending) (w' : World) : Prop :=
  ∃ x k' fl, e = .returned (vagg x) ∧ Rdr w' g A n c xs k' fl ∧ Only g w w' ∧ (match o with | some (y, k1) => x = y ∧ k' = k1 ∧ fl = false | none => fl = true)
theorem heap_set3 {w : World} {g t : Nat} {z0 z1 z2 : Value} (h : w.heap[g]? = some (.cells #[z0, z1, z2] t (0, 0))) (b0 b1 b2 : Value) :
    (((w.setCell ⟨g, 0, none⟩ b0).setCell ⟨g, 1, none⟩ b1).setCell ⟨g, 2, none⟩ b2).heap[g]? = some (.cells #[b0, b1, b2] t (0, 0)) := by
  have := heap_set (i := 2) (v := b2) (heap_set (i := 1) (v := b1) (heap_set (i := 0) (v := b0) h))
  simpa using this

theorem Rdr.old (h : Rdr w g A n c xs k fl) : xs = [] ∨ ∀ ad, A = some ad → ad.block < w.heap.size := by
  rcases h.data with h0 | ⟨ad, hA, _, hlt, _⟩
  · exact .inl h0
  · exact .inr fun ad' h' => by rw [hA] at h'; cases h'; exact hlt
theorem Rdr.setNew {w0 : World} (h : Rdr w g A n c xs k fl) (hg : g < w0.heap.size) (hd : xs = [] ∨ ∀ ad, A = some ad → ad.block < w0.heap.size) {p : Addr} (hp : w0.heap.size ≤ p.block) (v : Value) : Rdr (w.setCell p v) g A n c xs k fl := by
  refine ⟨by rw [Below.heap_setCell _ _ _ _ (by omega)]; exact h.blk, h.len, h.cap, h.off, ?_, h.byt, h.room⟩
  rcases h.data with h0 | ⟨ad, hA, hne, hlt, hc⟩
  · exact .inl h0
  · rcases hd with h0 | hd
    · exact .inl h0
    · refine .inr ⟨ad, hA, hne, by simpa [World.setCell] using hlt, fun j b hj => ?_⟩
      have := hd ad hA
      rw [World.cell?_of_block (w := w) (by rw [addr_add_block]; exact Below.heap_setCell _ _ _ _ (by omega))]
      exact hc j b hj
theorem Only.setNew {w0 w : World} {g : Nat} (h : Only g w0 w) {p : Addr} (hp : w0.heap.size ≤ p.block) (v : Value) : Only g w0 (w.setCell p v) :=
  ⟨h.os, h.tape, h.output, by simpa [World.setCell] using h.size, fun k hk hn => by rw [Below.heap_setCell _ _ _ _ (by omega)]; exact h.block k hk hn⟩
set_option maxHeartbeats 2000000 in
theorem value_raw_1 (h : Rdr w g A n c xs k false) (k1 k2 : Nat) (z : Int) (e1 : pInt xs k = some (1, k1)) (e2 : pInt xs k1 = some (z, k2)) :
    Calls Try.prog 65 #[.pointer (some ⟨g, 0, none⟩)] w (RawV w g A n c xs (pValue xs k)) := by
  have hg := h.lt
  have hold := h.old
  have Hold := Lib.hid hold
  have H := Lib.hid (h.below ((Below.refl _ w).alloc (Nat.le_refl _) (.cells #[.int .i64 0, .int .i64 0, .string ⟨#[]⟩] 56))); clear h hold
  have E1 := Lib.hid e1; clear e1
  go_enter Try.func65, Try.ntmps65
  go_wp2_with fail
  refine (int_some H.out E1.out).mono ?_
  rintro e w1 ⟨rfl, hR, ho⟩
  have hrb := (ho.block w.heap.size (by simp) (by omega)).trans (heap_alloc_new w _)
  have HR := Lib.hid (hR.below ((Below.refl _ w1).alloc (Nat.le_refl _) (.cells #[.int .i64 1, .int .i64 0, .string ⟨#[]⟩] 56)))
  have Ho := Lib.hid (((Only.refl g w).alloc _).trans (ho.alloc (.cells #[.int .i64 1, .int .i64 0, .string ⟨#[]⟩] 56)))
  have HR1 := Lib.hid hR
  have Ho1 := Lib.hid (((Only.refl g w).alloc _).trans ho)
  have Hrb := Lib.hid hrb
  have hlt := lt_of_some hrb
  have hg1 := hR.lt
  clear hR ho hrb
  go_wp2_with fail
  refine (int_some HR.out e2).mono ?_
  rintro e w2 ⟨rfl, hR2, ho2⟩
  have hvb := (ho2.block w1.heap.size (by simp) (by omega)).trans (heap_alloc_new w1 _)
  have hrb := (ho2.block w.heap.size (by simp; omega) (by omega)).trans ((Below.heap_alloc w1 _ _ hlt).trans Hrb.out)
  have HR2 := Lib.hid hR2
  have Ho2 := Lib.hid (Ho.out.trans ho2)
  clear hR2 ho2
  have a0 := cell_of_row w2 w1.heap.size 0 _ _ _ hvb
  have a1 := cell_of_row w2 w1.heap.size 1 _ _ _ hvb
  have a2 := cell_of_row w2 w1.heap.size 2 _ _ _ hvb
  have r0 := cell_of_row w2 w.heap.size 0 _ _ _ hrb
  have r1 := cell_of_row w2 w.heap.size 1 _ _ _ hrb
  have r2 := cell_of_row w2 w.heap.size 2 _ _ _ hrb
  have fa : ∀ i, w2.frozen? ⟨w1.heap.size, i, none⟩ = false := fun i => frozen_of_row w2 _ i _ _ hvb
  have fr : ∀ i, w2.frozen? ⟨w.heap.size, i, none⟩ = false := fun i => frozen_of_row w2 _ i _ _ hrb
  have hne : ¬ w1.heap.size = w.heap.size := by omega
  have hne2 : ¬ w.heap.size = w1.heap.size := by omega
  have Hrb2 := Lib.hid hrb
  clear hvb hrb
  have E2 := Lib.hid e2; clear e2
  go_wp2_with fail
  refine bodyPost_ret (v := vagg (1, z, strOf [])) (results_cell_row Try.results65 _ _ w.heap.size 56 _ (0, 0) _ rfl (heap_set3 ((Below.heap_setCell _ _ _ _ (by show w.heap.size ≠ w1.heap.size; omega)).trans Hrb2.out) _ _ _) Try.underlying56 rfl (by kernel_rfl)) rfl ?_
  refine ⟨(1, z, strOf []), k2, false, rfl, ?_, ?_, ?_⟩
  · exact (((HR2.out.setNew hg Hold.out (by show w.heap.size ≤ w1.heap.size; omega) _).setNew hg Hold.out (by show w.heap.size ≤ w.heap.size; omega) _).setNew hg Hold.out (by show w.heap.size ≤ w.heap.size; omega) _).setNew hg Hold.out (by show w.heap.size ≤ w.heap.size; omega) _
  · exact (((Ho2.out.setNew (by show w.heap.size ≤ w1.heap.size; omega) _).setNew (by show w.heap.size ≤ w.heap.size; omega) _).setNew (by show w.heap.size ≤ w.heap.size; omega) _).setNew (by show w.heap.size ≤ w.heap.size; omega) _
  · unfold pValue
    rw [E1.out]
    simp [E2.out]
set_option maxHeartbeats 2000000 in
theorem value_raw_2 (h : Rdr w g A n c xs k false) (k1 : Nat) (e1 : pInt xs k = some (1, k1)) (e2 : pInt xs k1 = none) :
    Calls Try.prog 65 #[.pointer (some ⟨g, 0, none⟩)] w (RawV w g A n c xs (pValue xs k)) := by
  have hg := h.lt
  have hold := h.old
  have Hold := Lib.hid hold
  have H := Lib.hid (h.below ((Below.refl _ w).alloc (Nat.le_refl _) (.cells #[.int .i64 0, .int .i64 0, .string ⟨#[]⟩] 56))); clear h hold
  have E1 := Lib.hid e1; clear e1
  go_enter Try.func65, Try.ntmps65
  go_wp2_with fail
  refine (int_some H.out E1.out).mono ?_
  rintro e w1 ⟨rfl, hR, ho⟩
  have hrb := (ho.block w.heap.size (by simp) (by omega)).trans (heap_alloc_new w _)
  have HR := Lib.hid (hR.below ((Below.refl _ w1).alloc (Nat.le_refl _) (.cells #[.int .i64 1, .int .i64 0, .string ⟨#[]⟩] 56)))
  have Ho := Lib.hid (((Only.refl g w).alloc _).trans (ho.alloc (.cells #[.int .i64 1, .int .i64 0, .string ⟨#[]⟩] 56)))
  have HR1 := Lib.hid hR
  have Ho1 := Lib.hid (((Only.refl g w).alloc _).trans ho)
  have Hrb := Lib.hid hrb
  have hlt := lt_of_some hrb
  have hg1 := hR.lt
  clear hR ho hrb
  go_wp2_with fail
  refine (int_fail HR.out e2).mono ?_
  rintro e w2 ⟨rfl, hR2, ho2⟩
  have hvb := (ho2.block w1.heap.size (by simp) (by omega)).trans (heap_alloc_new w1 _)
  have hrb := (ho2.block w.heap.size (by simp; omega) (by omega)).trans ((Below.heap_alloc w1 _ _ hlt).trans Hrb.out)
  have HR2 := Lib.hid hR2
  have Ho2 := Lib.hid (Ho.out.trans ho2)
  clear hR2 ho2
  have a0 := cell_of_row w2 w1.heap.size 0 _ _ _ hvb
  have a1 := cell_of_row w2 w1.heap.size 1 _ _ _ hvb
  have a2 := cell_of_row w2 w1.heap.size 2 _ _ _ hvb
  have r0 := cell_of_row w2 w.heap.size 0 _ _ _ hrb
  have r1 := cell_of_row w2 w.heap.size 1 _ _ _ hrb
  have r2 := cell_of_row w2 w.heap.size 2 _ _ _ hrb
  have fa : ∀ i, w2.frozen? ⟨w1.heap.size, i, none⟩ = false := fun i => frozen_of_row w2 _ i _ _ hvb
  have fr : ∀ i, w2.frozen? ⟨w.heap.size, i, none⟩ = false := fun i => frozen_of_row w2 _ i _ _ hrb
  have hne : ¬ w1.heap.size = w.heap.size := by omega
  have hne2 : ¬ w.heap.size = w1.heap.size := by omega
  have Hrb2 := Lib.hid hrb
  clear hvb hrb
  have E2 := Lib.hid e2; clear e2
  go_wp2_with fail
  refine bodyPost_ret (v := vagg (1, 0, strOf [])) (results_cell_row Try.results65 _ _ w.heap.size 56 _ (0, 0) _ rfl (heap_set3 ((Below.heap_setCell _ _ _ _ (by show w.heap.size ≠ w1.heap.size; omega)).trans Hrb2.out) _ _ _) Try.underlying56 rfl (by kernel_rfl)) rfl ?_
  refine ⟨(1, 0, strOf []), k1, true, rfl, ?_, ?_, ?_⟩
  · exact (((HR2.out.setNew hg Hold.out (by show w.heap.size ≤ w1.heap.size; omega) _).setNew hg Hold.out (by show w.heap.size ≤ w.heap.size; omega) _).setNew hg Hold.out (by show w.heap.size ≤ w.heap.size; omega) _).setNew hg Hold.out (by show w.heap.size ≤ w.heap.size; omega) _
  · exact (((Ho2.out.setNew (by show w.heap.size ≤ w1.heap.size; omega) _).setNew (by show w.heap.size ≤ w.heap.size; omega) _).setNew (by show w.heap.size ≤ w.heap.size; omega) _).setNew (by show w.heap.size ≤ w.heap.size; omega) _
  · unfold pValue
    rw [E1.out]
    simp [E2.out]
set_option maxHeartbeats 2000000 in
theorem value_raw_3 (h : Rdr w g A n c xs k false) (k1 k2 : Nat) (t : ByteArray) (e1 : pInt xs k = some (2, k1)) (e2 : pText 40 xs k1 = some (t, k2)) :
    Calls Try.prog 65 #[.pointer (some ⟨g, 0, none⟩)] w (RawV w g A n c xs (pValue xs k)) := by
  have hg := h.lt
  have hold := h.old
  have Hold := Lib.hid hold
  have H := Lib.hid (h.below ((Below.refl _ w).alloc (Nat.le_refl _) (.cells #[.int .i64 0, .int .i64 0, .string ⟨#[]⟩] 56))); clear h hold
  have E1 := Lib.hid e1; clear e1
  go_enter Try.func65, Try.ntmps65
  go_wp2_with fail
  refine (int_some H.out E1.out).mono ?_
  rintro e w1 ⟨rfl, hR, ho⟩
  have hrb := (ho.block w.heap.size (by simp) (by omega)).trans (heap_alloc_new w _)
  have HR := Lib.hid (hR.below ((Below.refl _ w1).alloc (Nat.le_refl _) (.cells #[.int .i64 2, .int .i64 0, .string ⟨#[]⟩] 56)))
  have Ho := Lib.hid (((Only.refl g w).alloc _).trans (ho.alloc (.cells #[.int .i64 2, .int .i64 0, .string ⟨#[]⟩] 56)))
  have HR1 := Lib.hid hR
  have Ho1 := Lib.hid (((Only.refl g w).alloc _).trans ho)
  have Hrb := Lib.hid hrb
  have hlt := lt_of_some hrb
  have hg1 := hR.lt
  clear hR ho hrb
  go_wp2_with fail
  refine (text_some HR.out (by decide) e2).mono ?_
  rintro e w2 ⟨rfl, hR2, ho2⟩
  have hvb := (ho2.block w1.heap.size (by simp) (by omega)).trans (heap_alloc_new w1 _)
  have hrb := (ho2.block w.heap.size (by simp; omega) (by omega)).trans ((Below.heap_alloc w1 _ _ hlt).trans Hrb.out)
  have HR2 := Lib.hid hR2
  have Ho2 := Lib.hid (Ho.out.trans ho2)
  clear hR2 ho2
  have a0 := cell_of_row w2 w1.heap.size 0 _ _ _ hvb
  have a1 := cell_of_row w2 w1.heap.size 1 _ _ _ hvb
  have a2 := cell_of_row w2 w1.heap.size 2 _ _ _ hvb
  have r0 := cell_of_row w2 w.heap.size 0 _ _ _ hrb
  have r1 := cell_of_row w2 w.heap.size 1 _ _ _ hrb
  have r2 := cell_of_row w2 w.heap.size 2 _ _ _ hrb
  have fa : ∀ i, w2.frozen? ⟨w1.heap.size, i, none⟩ = false := fun i => frozen_of_row w2 _ i _ _ hvb
  have fr : ∀ i, w2.frozen? ⟨w.heap.size, i, none⟩ = false := fun i => frozen_of_row w2 _ i _ _ hrb
  have hne : ¬ w1.heap.size = w.heap.size := by omega
  have hne2 : ¬ w.heap.size = w1.heap.size := by omega
  have Hrb2 := Lib.hid hrb
  clear hvb hrb
  have E2 := Lib.hid e2; clear e2
  go_wp2_with fail
  refine bodyPost_ret (v := vagg (2, 0, t)) (results_cell_row Try.results65 _ _ w.heap.size 56 _ (0, 0) _ rfl (heap_set3 ((Below.heap_setCell _ _ _ _ (by show w.heap.size ≠ w1.heap.size; omega)).trans Hrb2.out) _ _ _) Try.underlying56 rfl (by kernel_rfl)) rfl ?_
  refine ⟨(2, 0, t), k2, false, rfl, ?_, ?_, ?_⟩
  · exact (((HR2.out.setNew hg Hold.out (by show w.heap.size ≤ w1.heap.size; omega) _).setNew hg Hold.out (by show w.heap.size ≤ w.heap.size; omega) _).setNew hg Hold.out (by show w.heap.size ≤ w.heap.size; omega) _).setNew hg Hold.out (by show w.heap.size ≤ w.heap.size; omega) _
  · exact (((Ho2.out.setNew (by show w.heap.size ≤ w1.heap.size; omega) _).setNew (by show w.heap.size ≤ w.heap.size; omega) _).setNew (by show w.heap.size ≤ w.heap.size; omega) _).setNew (by show w.heap.size ≤ w.heap.size; omega) _
  · unfold pValue
    rw [E1.out]
    simp [E2.out]
set_option maxHeartbeats 2000000 in
theorem value_raw_4 (h : Rdr w g A n c xs k false) (k1 : Nat) (e1 : pInt xs k = some (2, k1)) (e2 : pText 40 xs k1 = none) :
    Calls Try.prog 65 #[.pointer (some ⟨g, 0, none⟩)] w (RawV w g A n c xs (pValue xs k)) := by
  have hg := h.lt
  have hold := h.old
  have Hold := Lib.hid hold
  have H := Lib.hid (h.below ((Below.refl _ w).alloc (Nat.le_refl _) (.cells #[.int .i64 0, .int .i64 0, .string ⟨#[]⟩] 56))); clear h hold
  have E1 := Lib.hid e1; clear e1
  go_enter Try.func65, Try.ntmps65
  go_wp2_with fail
  refine (int_some H.out E1.out).mono ?_
  rintro e w1 ⟨rfl, hR, ho⟩
  have hrb := (ho.block w.heap.size (by simp) (by omega)).trans (heap_alloc_new w _)
  have HR := Lib.hid (hR.below ((Below.refl _ w1).alloc (Nat.le_refl _) (.cells #[.int .i64 2, .int .i64 0, .string ⟨#[]⟩] 56)))
  have Ho := Lib.hid (((Only.refl g w).alloc _).trans (ho.alloc (.cells #[.int .i64 2, .int .i64 0, .string ⟨#[]⟩] 56)))
  have HR1 := Lib.hid hR
  have Ho1 := Lib.hid (((Only.refl g w).alloc _).trans ho)
  have Hrb := Lib.hid hrb
  have hlt := lt_of_some hrb
  have hg1 := hR.lt
  clear hR ho hrb
  go_wp2_with fail
  refine (text_fail HR.out (by decide) e2).mono ?_
  rintro e w2 ⟨rfl, hR2, ho2⟩
  have hvb := (ho2.block w1.heap.size (by simp) (by omega)).trans (heap_alloc_new w1 _)
  have hrb := (ho2.block w.heap.size (by simp; omega) (by omega)).trans ((Below.heap_alloc w1 _ _ hlt).trans Hrb.out)
  have HR2 := Lib.hid hR2
  have Ho2 := Lib.hid (Ho.out.trans ho2)
  clear hR2 ho2
  have a0 := cell_of_row w2 w1.heap.size 0 _ _ _ hvb
  have a1 := cell_of_row w2 w1.heap.size 1 _ _ _ hvb
  have a2 := cell_of_row w2 w1.heap.size 2 _ _ _ hvb
  have r0 := cell_of_row w2 w.heap.size 0 _ _ _ hrb
  have r1 := cell_of_row w2 w.heap.size 1 _ _ _ hrb
  have r2 := cell_of_row w2 w.heap.size 2 _ _ _ hrb
  have fa : ∀ i, w2.frozen? ⟨w1.heap.size, i, none⟩ = false := fun i => frozen_of_row w2 _ i _ _ hvb
  have fr : ∀ i, w2.frozen? ⟨w.heap.size, i, none⟩ = false := fun i => frozen_of_row w2 _ i _ _ hrb
  have hne : ¬ w1.heap.size = w.heap.size := by omega
  have hne2 : ¬ w.heap.size = w1.heap.size := by omega
  have Hrb2 := Lib.hid hrb
  clear hvb hrb
  have E2 := Lib.hid e2; clear e2
  go_wp2_with fail
  refine bodyPost_ret (v := vagg (2, 0, strOf [])) (results_cell_row Try.results65 _ _ w.heap.size 56 _ (0, 0) _ rfl (heap_set3 ((Below.heap_setCell _ _ _ _ (by show w.heap.size ≠ w1.heap.size; omega)).trans Hrb2.out) _ _ _) Try.underlying56 rfl (by kernel_rfl)) rfl ?_
  refine ⟨(2, 0, strOf []), k1, true, rfl, ?_, ?_, ?_⟩
  · exact (((HR2.out.setNew hg Hold.out (by show w.heap.size ≤ w1.heap.size; omega) _).setNew hg Hold.out (by show w.heap.size ≤ w.heap.size; omega) _).setNew hg Hold.out (by show w.heap.size ≤ w.heap.size; omega) _).setNew hg Hold.out (by show w.heap.size ≤ w.heap.size; omega) _
  · exact (((Ho2.out.setNew (by show w.heap.size ≤ w1.heap.size; omega) _).setNew (by show w.heap.size ≤ w.heap.size; omega) _).setNew (by show w.heap.size ≤ w.heap.size; omega) _).setNew (by show w.heap.size ≤ w.heap.size; omega) _
  · unfold pValue
    rw [E1.out]
    simp [E2.out]
set_option maxHeartbeats 2000000 in
theorem value_raw_5 (h : Rdr w g A n c xs k false) (z : Int) (k1 : Nat) (e1 : pInt xs k = some (z, k1)) (h1 : z ≠ 1) (h2 : z ≠ 2) :
    Calls Try.prog 65 #[.pointer (some ⟨g, 0, none⟩)] w (RawV w g A n c xs (pValue xs k)) := by
  have hg := h.lt
  have hold := h.old
  have Hold := Lib.hid hold
  have H := Lib.hid (h.below ((Below.refl _ w).alloc (Nat.le_refl _) (.cells #[.int .i64 0, .int .i64 0, .string ⟨#[]⟩] 56))); clear h hold
  have E1 := Lib.hid e1; clear e1
  go_enter Try.func65, Try.ntmps65
  go_wp2_with fail
  refine (int_some H.out E1.out).mono ?_
  rintro e w1 ⟨rfl, hR, ho⟩
  have hrb := (ho.block w.heap.size (by simp) (by omega)).trans (heap_alloc_new w _)
  have HR := Lib.hid (hR.below ((Below.refl _ w1).alloc (Nat.le_refl _) (.cells #[.int .i64 z, .int .i64 0, .string ⟨#[]⟩] 56)))
  have Ho := Lib.hid (((Only.refl g w).alloc _).trans (ho.alloc (.cells #[.int .i64 z, .int .i64 0, .string ⟨#[]⟩] 56)))
  have HR1 := Lib.hid hR
  have Ho1 := Lib.hid (((Only.refl g w).alloc _).trans ho)
  have Hrb := Lib.hid hrb
  have hlt := lt_of_some hrb
  have hg1 := hR.lt
  clear hR ho hrb
  have hvb : (w1.alloc (.cells #[.int .i64 z, .int .i64 0, .string ⟨#[]⟩] 56)).heap[w1.heap.size]? = some (.cells #[.int .i64 z, .int .i64 0, .string ⟨#[]⟩] 56) := heap_alloc_new w1 _
  have hrb : (w1.alloc (.cells #[.int .i64 z, .int .i64 0, .string ⟨#[]⟩] 56)).heap[w.heap.size]? = some (.cells #[.int .i64 0, .int .i64 0, .string ⟨#[]⟩] 56) := (Below.heap_alloc w1 _ _ hlt).trans Hrb.out
  have HR2 : Hid (Rdr (w1.alloc (.cells #[.int .i64 z, .int .i64 0, .string ⟨#[]⟩] 56)) g A n c xs k1 false) := HR
  have fg : (w1.alloc (.cells #[.int .i64 z, .int .i64 0, .string ⟨#[]⟩] 56)).frozen? ⟨g, 2, none⟩ = false := HR2.out.free 2
  have cg := HR2.out.cell 2
  have hrb3 := (Below.heap_setCell w1 ⟨g, 2, none⟩ (.bool true) w.heap.size (by show w.heap.size ≠ g; omega)).trans Hrb.out
  have u0 := cell_of_row w1 w.heap.size 0 _ _ _ Hrb.out
  have u1 := cell_of_row w1 w.heap.size 1 _ _ _ Hrb.out
  have u2 := cell_of_row w1 w.heap.size 2 _ _ _ Hrb.out
  have fu : ∀ i, w1.frozen? ⟨w.heap.size, i, none⟩ = false := fun i => frozen_of_row w1 _ i _ _ Hrb.out
  have Hrb3 := Lib.hid hrb3
  clear hrb3
  have a0 := cell_of_row (w1.alloc (.cells #[.int .i64 z, .int .i64 0, .string ⟨#[]⟩] 56)) w1.heap.size 0 _ _ _ hvb
  have a1 := cell_of_row (w1.alloc (.cells #[.int .i64 z, .int .i64 0, .string ⟨#[]⟩] 56)) w1.heap.size 1 _ _ _ hvb
  have a2 := cell_of_row (w1.alloc (.cells #[.int .i64 z, .int .i64 0, .string ⟨#[]⟩] 56)) w1.heap.size 2 _ _ _ hvb
  have r0 := cell_of_row (w1.alloc (.cells #[.int .i64 z, .int .i64 0, .string ⟨#[]⟩] 56)) w.heap.size 0 _ _ _ hrb
  have r1 := cell_of_row (w1.alloc (.cells #[.int .i64 z, .int .i64 0, .string ⟨#[]⟩] 56)) w.heap.size 1 _ _ _ hrb
  have r2 := cell_of_row (w1.alloc (.cells #[.int .i64 z, .int .i64 0, .string ⟨#[]⟩] 56)) w.heap.size 2 _ _ _ hrb
  have fa : ∀ i, (w1.alloc (.cells #[.int .i64 z, .int .i64 0, .string ⟨#[]⟩] 56)).frozen? ⟨w1.heap.size, i, none⟩ = false := fun i => frozen_of_row (w1.alloc (.cells #[.int .i64 z, .int .i64 0, .string ⟨#[]⟩] 56)) _ i _ _ hvb
  have fr : ∀ i, (w1.alloc (.cells #[.int .i64 z, .int .i64 0, .string ⟨#[]⟩] 56)).frozen? ⟨w.heap.size, i, none⟩ = false := fun i => frozen_of_row (w1.alloc (.cells #[.int .i64 z, .int .i64 0, .string ⟨#[]⟩] 56)) _ i _ _ hrb
  have hne : ¬ w1.heap.size = w.heap.size := by omega
  have hne2 : ¬ w.heap.size = w1.heap.size := by omega
  have Hrb2 := Lib.hid hrb
  clear hvb hrb
  have hne3 : ¬ g = w1.heap.size := by omega
  have hne4 : ¬ g = w.heap.size := by omega
  have t1 : (z == 1) = false := by rw [beq_eq_false_iff_ne]; exact h1
  have t2 : (z == 2) = false := by rw [beq_eq_false_iff_ne]; exact h2
  have N1 := Lib.hid h1; have N2 := Lib.hid h2; clear h1 h2
  go_wp2_with fail
  refine bodyPost_ret (v := vagg (z, 0, strOf [])) (results_cell_row Try.results65 _ _ w.heap.size 56 _ (0, 0) _ rfl ((Below.heap_alloc _ _ _ (by simpa [World.setCell] using hlt)).trans (heap_set3 Hrb3.out _ _ _)) Try.underlying56 rfl (by kernel_rfl)) rfl ?_
  refine ⟨(z, 0, strOf []), k1, true, rfl, ?_, ?_, ?_⟩
  · exact (((HR1.out.fail.setNew hg Hold.out (by show w.heap.size ≤ w.heap.size; omega) _).setNew hg Hold.out (by show w.heap.size ≤ w.heap.size; omega) _).setNew hg Hold.out (by show w.heap.size ≤ w.heap.size; omega) _).below ((Below.refl _ _).alloc (Nat.le_refl _) _)
  · exact ((((Ho1.out.set 2 _).setNew (by show w.heap.size ≤ w.heap.size; omega) _).setNew (by show w.heap.size ≤ w.heap.size; omega) _).setNew (by show w.heap.size ≤ w.heap.size; omega) _).alloc _
  · unfold pValue
    rw [E1.out]
    simp [N1.out, N2.out]
set_option maxHeartbeats 2000000 in
theorem value_raw_6 (h : Rdr w g A n c xs k false) (e1 : pInt xs k = none) :
    Calls Try.prog 65 #[.pointer (some ⟨g, 0, none⟩)] w (RawV w g A n c xs (pValue xs k)) := by
  have hg := h.lt
  have hold := h.old
  have Hold := Lib.hid hold
  have H := Lib.hid (h.below ((Below.refl _ w).alloc (Nat.le_refl _) (.cells #[.int .i64 0, .int .i64 0, .string ⟨#[]⟩] 56))); clear h hold
  have E1 := Lib.hid e1; clear e1
  go_enter Try.func65, Try.ntmps65
  go_wp2_with fail
  refine (int_fail H.out E1.out).mono ?_
  rintro e w1 ⟨rfl, hR, ho⟩
  have hrb := (ho.block w.heap.size (by simp) (by omega)).trans (heap_alloc_new w _)
  have HR := Lib.hid (hR.below ((Below.refl _ w1).alloc (Nat.le_refl _) (.cells #[.int .i64 0, .int .i64 0, .string ⟨#[]⟩] 56)))
  have Ho := Lib.hid (((Only.refl g w).alloc _).trans (ho.alloc (.cells #[.int .i64 0, .int .i64 0, .string ⟨#[]⟩] 56)))
  have HR1 := Lib.hid hR
  have Ho1 := Lib.hid (((Only.refl g w).alloc _).trans ho)
  have Hrb := Lib.hid hrb
  have hlt := lt_of_some hrb
  have hg1 := hR.lt
  clear hR ho hrb
  have hvb : (w1.alloc (.cells #[.int .i64 0, .int .i64 0, .string ⟨#[]⟩] 56)).heap[w1.heap.size]? = some (.cells #[.int .i64 0, .int .i64 0, .string ⟨#[]⟩] 56) := heap_alloc_new w1 _
  have hrb : (w1.alloc (.cells #[.int .i64 0, .int .i64 0, .string ⟨#[]⟩] 56)).heap[w.heap.size]? = some (.cells #[.int .i64 0, .int .i64 0, .string ⟨#[]⟩] 56) := (Below.heap_alloc w1 _ _ hlt).trans Hrb.out
  have HR2 : Hid (Rdr (w1.alloc (.cells #[.int .i64 0, .int .i64 0, .string ⟨#[]⟩] 56)) g A n c xs k true) := HR
  have fg : (w1.alloc (.cells #[.int .i64 0, .int .i64 0, .string ⟨#[]⟩] 56)).frozen? ⟨g, 2, none⟩ = false := HR2.out.free 2
  have cg := HR2.out.cell 2
  have hrb3 := (Below.heap_setCell w1 ⟨g, 2, none⟩ (.bool true) w.heap.size (by show w.heap.size ≠ g; omega)).trans Hrb.out
  have u0 := cell_of_row w1 w.heap.size 0 _ _ _ Hrb.out
  have u1 := cell_of_row w1 w.heap.size 1 _ _ _ Hrb.out
  have u2 := cell_of_row w1 w.heap.size 2 _ _ _ Hrb.out
  have fu : ∀ i, w1.frozen? ⟨w.heap.size, i, none⟩ = false := fun i => frozen_of_row w1 _ i _ _ Hrb.out
  have Hrb3 := Lib.hid hrb3
  clear hrb3
  have a0 := cell_of_row (w1.alloc (.cells #[.int .i64 0, .int .i64 0, .string ⟨#[]⟩] 56)) w1.heap.size 0 _ _ _ hvb
  have a1 := cell_of_row (w1.alloc (.cells #[.int .i64 0, .int .i64 0, .string ⟨#[]⟩] 56)) w1.heap.size 1 _ _ _ hvb
  have a2 := cell_of_row (w1.alloc (.cells #[.int .i64 0, .int .i64 0, .string ⟨#[]⟩] 56)) w1.heap.size 2 _ _ _ hvb
  have r0 := cell_of_row (w1.alloc (.cells #[.int .i64 0, .int .i64 0, .string ⟨#[]⟩] 56)) w.heap.size 0 _ _ _ hrb
  have r1 := cell_of_row (w1.alloc (.cells #[.int .i64 0, .int .i64 0, .string ⟨#[]⟩] 56)) w.heap.size 1 _ _ _ hrb
  have r2 := cell_of_row (w1.alloc (.cells #[.int .i64 0, .int .i64 0, .string ⟨#[]⟩] 56)) w.heap.size 2 _ _ _ hrb
  have fa : ∀ i, (w1.alloc (.cells #[.int .i64 0, .int .i64 0, .string ⟨#[]⟩] 56)).frozen? ⟨w1.heap.size, i, none⟩ = false := fun i => frozen_of_row (w1.alloc (.cells #[.int .i64 0, .int .i64 0, .string ⟨#[]⟩] 56)) _ i _ _ hvb
  have fr : ∀ i, (w1.alloc (.cells #[.int .i64 0, .int .i64 0, .string ⟨#[]⟩] 56)).frozen? ⟨w.heap.size, i, none⟩ = false := fun i => frozen_of_row (w1.alloc (.cells #[.int .i64 0, .int .i64 0, .string ⟨#[]⟩] 56)) _ i _ _ hrb
  have hne : ¬ w1.heap.size = w.heap.size := by omega
  have hne2 : ¬ w.heap.size = w1.heap.size := by omega
  have Hrb2 := Lib.hid hrb
  clear hvb hrb
  have hne3 : ¬ g = w1.heap.size := by omega
  have hne4 : ¬ g = w.heap.size := by omega
  go_wp2_with fail
  refine bodyPost_ret (v := vagg (0, 0, strOf [])) (results_cell_row Try.results65 _ _ w.heap.size 56 _ (0, 0) _ rfl ((Below.heap_alloc _ _ _ (by simpa [World.setCell] using hlt)).trans (heap_set3 Hrb3.out _ _ _)) Try.underlying56 rfl (by kernel_rfl)) rfl ?_
  refine ⟨(0, 0, strOf []), k, true, rfl, ?_, ?_, ?_⟩
  · exact (((HR1.out.fail.setNew hg Hold.out (by show w.heap.size ≤ w.heap.size; omega) _).setNew hg Hold.out (by show w.heap.size ≤ w.heap.size; omega) _).setNew hg Hold.out (by show w.heap.size ≤ w.heap.size; omega) _).below ((Below.refl _ _).alloc (Nat.le_refl _) _)
  · exact ((((Ho1.out.set 2 _).setNew (by show w.heap.size ≤ w.heap.size; omega) _).setNew (by show w.heap.size ≤ w.heap.size; omega) _).setNew (by show w.heap.size ≤ w.heap.size; omega) _).alloc _
  · unfold pValue
    rw [E1.out]
theorem value_raw (h : Rdr w g A n c xs k false) : Calls Try.prog 65 #[.pointer (some ⟨g, 0, none⟩)] w (RawV w g A n c xs (pValue xs k)) := by
  cases e1 : pInt xs k with
  | none => exact value_raw_6 h e1
  | some o =>
    obtain ⟨z, k1⟩ := o
    by_cases h1 : z = 1
    · subst h1
      cases e2 : pInt xs k1 with
      | none => exact value_raw_2 h k1 e1 e2
      | some o => exact value_raw_1 h k1 o.2 o.1 e1 e2
    · by_cases h2 : z = 2
      · subst h2
        cases e2 : pText 40 xs k1 with
        | none => exact value_raw_4 h k1 e1 e2
        | some o => exact value_raw_3 h k1 o.2 o.1 e1 e2
      · exact value_raw_5 h z k1 e1 h1 h2
end
end Go.Proofs.Ytlimaefgifgegaa
