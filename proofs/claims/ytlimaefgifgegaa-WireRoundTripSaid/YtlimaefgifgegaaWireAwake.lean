/- The contract of the law package's awake: the document's examples. -/
import Derived.Test.YtlimaefgifgegaaWireEnc
import Derived.Test.YtlimaefgifgegaaWireSame
import Derived.Test.YtlimaefgifgegaaLaw
namespace Go.Proofs.Ytlimaefgifgegaa
open Go.RowKit

set_option maxHeartbeats 400000 in
theorem awake_any (w : World) : Calls Try.prog 6 #[] w (Ok w) := by
  go_enter Try.func6, Try.ntmps6
  go_wp2_with fail
  refine (new_any _ [128, 0] _ (Bsl.lit w _ _ _ rfl rfl) (by unfold Byt; decide) (by unfold Room2; decide)).mono ?_
  rintro e w1 ⟨g, A, c, rfl, hg, hA, hR, hb1⟩
  have hb1' : Below w.heap.size w w1 := ((Below.refl _ w).alloc (Nat.le_refl _) _).trans (hb1.mono (by simp))
  clear hb1 hA
  go_wp2_with fail
  refine (int_own 64 _ _ (w1.heap.size + 1) 1 [bv 9] (by simp) (own_lit' (w1.alloc _) _ 1 _ _ rfl rfl (by decide) (by simp)) (by unfold I64; decide) (by unfold Room; decide)).mono ?_
  rintro e w2 ⟨v2, rfl, hown2, hf2⟩
  have hbx := hf2.keeps ((Below.heap_alloc _ _ _ (by simp)).trans (heap_alloc_new w1 _)) (by decide)
  have hb12 : Below w1.heap.size w1 w2 := (((Below.refl _ w1).alloc (Nat.le_refl _) _).alloc (by simp) _).trans ((hf2.below (by simp)).mono (by simp))
  have hR2 := hR.below hb12
  have hb2' : Below w.heap.size w w2 := hb1'.trans (hb12.mono hb1'.size)
  have hs2 : Bsl w2 v2 [9, 128, 1] := Bsl.of_own hown2
  clear hb12 hf2 hown2 hR
  go_wp2_with fail
  refine (same_any _ _ [9, 128, 1] [9, 128, 1] _ (hs2.alloc _) (Bsl.lit w2 _ _ _ rfl rfl) (by unfold Byt; decide) (by unfold Byt; decide) true (by decide)).mono ?_
  rintro e w3 ⟨rfl, rfl⟩
  have c0 := cell_of_row w2 w1.heap.size 0 _ _ _ hbx
  have c1 := cell_of_row w2 w1.heap.size 1 _ _ _ hbx
  have c2 := cell_of_row w2 w1.heap.size 2 _ _ _ hbx
  have hlt := lt_of_some hbx
  clear hbx
  go_wp2_with fail
  refine (value_own 2 0 ⟨#[97]⟩ _ _ (w2.heap.size + 1) 0 [] (by simp) (World.ownsRow_nil _ _ _ _) (by unfold I64; decide) (by unfold I64; decide) (by unfold Room; decide) (by unfold Room; decide)).mono ?_
  rintro e w4 ⟨v4, rfl, hown4, hf4⟩
  have hb24 : Below w2.heap.size w2 w4 := ((Below.refl _ w2).alloc (Nat.le_refl _) _).trans ((hf4.below (by simp)).mono (by simp))
  have hR4 := hR2.below hb24
  have hb4' : Below w.heap.size w w4 := hb2'.trans (hb24.mono hb2'.size)
  have hs4 : Bsl w4 v4 [4, 2, 97] := Bsl.of_own hown4
  clear hb24 hf4 hown4 hR2
  go_wp2_with fail
  refine (same_any _ _ [4, 2, 97] [4, 2, 97] _ (hs4.alloc _) (Bsl.lit w4 _ _ _ rfl rfl) (by unfold Byt; decide) (by unfold Byt; decide) true (by decide)).mono ?_
  rintro e w5 ⟨rfl, rfl⟩
  go_wp2_with fail
  have hRa := hR4.below ((Below.refl _ _).alloc (Nat.le_refl _) (.cells ⟨[bv 4, bv 2, bv 97]⟩ 5))
  refine (int_rd (bnd_none _ _ hRa 0 0 (by decide) rfl)).mono ?_
  rintro e w6 ⟨rfl, hR6, ho6⟩
  go_wp2_with fail
  refine (end_any hR6).mono ?_
  rintro e w7 ⟨rfl, m, rfl⟩
  have hg' : w.heap.size ≤ g := by simp at hg; omega
  have hb6 : Below w.heap.size w w6 := (hb4'.alloc hb4'.size _).trans (ho6.toBelow hg' (by have := hb4'.size; simp; omega))
  go_wp2
  go_ret
  exact ⟨rfl, ⟨hb6.os, hb6.tape, hb6.output, hb6.size, hb6.block⟩⟩
end Go.Proofs.Ytlimaefgifgegaa
