/- SumValues: for every input the law returns true. -/
import Derived.Test.YtkjconhhandhlabSumAwake
import Derived.Test.YtkjconhhandhlabSumOpenC
import Derived.Test.YtkjconhhandhlabOpen
namespace Go.Proofs.Ytkjconhhandhlab
open Go.RowKit

set_option maxHeartbeats 1000000 in
theorem sumvalues_walk (A : Option Addr) (c : Nat) (xs : List Nat) (w : World) (hx : Bsl w (.slice A xs.length c) xs) (hby : Byt xs) (hl : xs.length ≤ 140737488351232) :
    Calls Try.prog 9 #[.slice A xs.length c] w (Ok w) := by
  have Hby := Lib.hid hby; clear hby
  have Hx := Lib.hid hx; clear hx
  by_cases h0 : xs.length = 0
  · have t0 : ((xs.length : Int) == 0) = true := by rw [beq_iff_eq]; omega
    have h0' := Lib.hid h0; clear h0
    go_enter Try.func9, Try.ntmps9
    go_wp2_with fail
    refine (awake_any _).mono ?_
    rintro e w1 ⟨rfl, hb1⟩
    go_wp2
    go_ret
    exact ⟨rfl, hb1⟩
  have t0 : ((xs.length : Int) == 0) = false := by rw [beq_eq_false_iff_ne]; omega
  by_cases h600 : 600 < xs.length
  · go_enter Try.func9, Try.ntmps9
    go_wp2_with fail
    refine (awake_any _).mono ?_
    rintro e w1 ⟨rfl, hb1⟩
    go_wp2
    go_ret
    exact ⟨rfl, hb1⟩
  have h1 : 1 ≤ xs.length := by omega
  clear h0
  go_enter Try.func9, Try.ntmps9
  go_wp2_with fail
  refine (awake_any _).mono ?_
  rintro e w1 ⟨rfl, hb1⟩
  have Hb1 := Lib.hid hb1; clear hb1
  have Hx1 := Lib.hid (Hx.out.below Hb1.out)
  go_wp2_with (at_builtin; refine appB rfl (.tmp 17) (.tmp 18) 23 rfl info_u8 Try.underlying23 w1.heap.size _ 0 [] rfl (own_lit w1 #[] 0 [] rfl rfl (by decide)) _ xs rfl (Hx1.out.alloc _) (by unfold Room2; omega) (by simp) ?_; intro v2 w2 hown2 hf2; rw [Nat.zero_add, List.nil_append] at hown2; have Hb12 : Hid (Below w1.heap.size w1 w2) := Lib.hid (((Below.refl _ w1).alloc (Nat.le_refl _) _).trans (hf2.below (by simp))); clear hf2; obtain ⟨g, cap, rfl, hg1, hg2, hcap⟩ := own_shape hown2 h1; have Hown2 := Lib.hid hown2; clear hown2)
  refine (seal_any _ _ xs _ (Bsl.of_own Hown2.out) Hby.out (by omega)).mono ?_
  rintro e w3 ⟨v3, rfl, hown3, hb3⟩
  obtain ⟨g3, cap3, rfl, hg3, hg4, hcap3⟩ := own_shape hown3 (by rw [sealed_len]; omega)
  rw [sealed_len] at hown3 hcap3 ⊢
  have hx3 := (Bsl.of_own Hown2.out).below hb3
  have c0 : w3.cell? ⟨g, 0, none⟩ = some (.int .u8 (xs[0] : Nat)) := by
    rw [hb3.cell (show g < w2.heap.size from hg2), Hown2.out.cellAt 0 (by omega), List.getElem?_map, List.getElem?_eq_getElem h1]; rfl
  have f0 : w3.frozen? ⟨g, 0, none⟩ = false := by rw [hb3.frozen (show g < w2.heap.size from hg2)]; exact Hown2.out.frozenAt 0
  have Hown3 := Lib.hid hown3
  have Hb23 := Lib.hid hb3
  have hne : g3 ≠ g := by omega
  clear hown3 hb3 hx3
  go_wp2_with fail
  generalize hw4 : w3.setCell ⟨g, 0, none⟩ (.int .u8 (((xs[0] : Nat) + 1 : Int) % 256)) = w4
  have hown4 : w4.ownsRow w2.heap.size 5 1 (.slice (some ⟨g3, 0, none⟩) (xs.length + 8) cap3) (xs.length + 8) ((sealed xs).map bv) := by
    rw [← hw4]; exact ownsRow_setCell_below Hown3.out (a := ⟨g, 0, none⟩) (show g < w2.heap.size from hg2) _
  have hb14 : Below w1.heap.size w1 w4 := by
    rw [← hw4]; exact (Hb12.out.trans (Hb23.out.mono Hb12.out.size)).setCell (show w1.heap.size ≤ g from hg1) _
  have hs4 : w4.heap.size = w3.heap.size := by rw [← hw4]; simp
  clear hw4 c0 f0
  refine (open_long ⟨g3, 0, none⟩ cap3 xs.length xs (bts 8 (fnv fbase xs)) rfl (bts_len _ _) _ (Bsl.of_own hown4) Hby.out (bts_byt _ _) (by omega) true (by simp)).mono ?_
  rintro e w5 ⟨v5, rfl, hown5, hb5⟩
  simp only [if_true] at hown5 ⊢
  have hg5 : g3 < w4.heap.size := by omega
  obtain ⟨x, hx0⟩ : ∃ x, x = (sealed xs)[0]'(by rw [sealed_len]; omega) := ⟨_, rfl⟩
  have c0 : w5.cell? ⟨g3, 0, none⟩ = some (.int .u8 (x : Int)) := by
    rw [hb5.cell (show g3 < w4.heap.size from hg5), hown4.cellAt 0 (by omega), List.getElem?_map, List.getElem?_eq_getElem (by rw [sealed_len]; omega), ← hx0]; rfl
  have f0 : w5.frozen? ⟨g3, 0, none⟩ = false := by rw [hb5.frozen (show g3 < w4.heap.size from hg5)]; exact hown4.frozenAt 0
  have hxb : x < 256 := by rw [hx0]; exact sealed_byt xs Hby.out _ (List.getElem_mem _)
  have hown6 := fun u => ownsRow_setCell_below hown5 (a := ⟨g3, 0, none⟩) (show g3 < w4.heap.size from hg5) u
  have hb16 := fun u => (hb14.trans (hb5.mono hb14.size)).setCell (p := ⟨g3, 0, none⟩) (show w1.heap.size ≤ g3 by have := Hb12.out.size; omega) u
  have r1 := fun u => run_str (P := Try.prog) (w5.setCell ⟨g3, 0, none⟩ u) 23 5 9 Try.underlying23 Try.underlying5 Try.underlying9 v5 xs (Bsl.of_own (hown6 u))
  have r2 := fun u => run_str (P := Try.prog) (w5.setCell ⟨g3, 0, none⟩ u) 23 5 9 Try.underlying23 Try.underlying5 Try.underlying9 (.slice A xs.length c) xs (Hx1.out.below (hb16 u))
  have Hend := fun u => Lib.hid (Hb1.out.trans ((hb16 u).mono Hb1.out.size))
  clear hown6 hb16 hx0 hown5 hb5 hown4 hb14 hs4 hg5
  go_wp2
  go_ret
  exact ⟨rfl, (Hend _).out⟩
end Go.Proofs.Ytkjconhhandhlab
