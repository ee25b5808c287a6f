/- SumParts: for every input the law returns true. -/
import Derived.Test.YtkjconhhandhlabSumAwake
import Derived.Test.YtkjconhhandhlabOpen
namespace Go.Proofs.Ytkjconhhandhlab
open Go.RowKit

set_option maxHeartbeats 400000 in
theorem sumparts_walk (s : Nat) (A : Option Addr) (c : Nat) (xs : List Nat) (A2 : Option Addr) (c2 : Nat) (ys : List Nat) (w : World) (hs : U64 s) (hx : Bsl w (.slice A xs.length c) xs) (hb : Byt xs) (hl : xs.length ≤ 140737488351232)
    (hy : Bsl w (.slice A2 ys.length c2) ys) (hb2 : Byt ys) (hl2 : ys.length ≤ 140737488351232) :
    Calls Try.prog 5 #[.int .u64 (s : Int), .slice A xs.length c, .slice A2 ys.length c2] w (Ok w) := by
  have Hs := Lib.hid hs; clear hs
  have Hb := Lib.hid hb; clear hb
  have Hb2 := Lib.hid hb2; clear hb2
  by_cases hgt : 600 < xs.length + ys.length
  · clear hx hy
    go_enter Try.func5, Try.ntmps5
    go_wp2_with fail
    refine (awake_any _).mono ?_
    rintro e w1 ⟨rfl, hb1⟩
    go_wp2
    go_ret
    exact ⟨rfl, hb1⟩
  · have hr : Room2 (xs.length + ys.length) := by unfold Room2; omega
    have hr1 : Room2 xs.length := by unfold Room2; omega
    have hr2 : Room2 ys.length := by unfold Room2; omega
    have Hr := Lib.hid hr; clear hr
    have Hr1 := Lib.hid hr1; clear hr1
    have Hr2 := Lib.hid hr2; clear hr2
    go_enter Try.func5, Try.ntmps5
    go_wp2_with fail
    refine (awake_any _).mono ?_
    rintro e w1 ⟨rfl, hb1⟩
    have Hx := Lib.hid (hx.below hb1); clear hx
    have Hy := Lib.hid (hy.below hb1); clear hy
    go_wp2_with fail
    refine (from_any _ _ xs _ Hs.out Hx.out Hb.out Hr1.out).mono ?_
    rintro e w2 ⟨q1, rfl, hq, hu, rfl⟩
    have H1 := Lib.hid hq; clear hq
    have U1 := Lib.hid hu; clear hu
    go_wp2_with fail
    refine (from_any _ _ ys _ U1.out Hy.out Hb2.out Hr2.out).mono ?_
    rintro e w2 ⟨q2, rfl, hq, hu, rfl⟩
    have H2 := Lib.hid hq; clear hq hu
    go_wp2_with (first
      | (at_builtin; refine appG (by simp [Region.wanted, yielded]; omega) (.tmp 22) (.tmp 23) 23 rfl info_u8 Try.underlying23 w1.heap.size _ 0 [] rfl (own_lit w1 #[] 0 [] rfl rfl (by decide)) _ xs rfl (Hx.out.alloc _) (by simpa using Hr1.out) (by simp) ?_; intro v2 w2 hown2 hf2; have hb2 : Below w1.heap.size w1 w2 := ((Below.refl _ w1).alloc (Nat.le_refl _) _).trans (hf2.below (by simp)); rw [Nat.zero_add, List.nil_append] at hown2)
      | (at_builtin; refine appG (by simp [Region.wanted, yielded]; omega) (.tmp 24) (.tmp 25) 23 rfl info_u8 Try.underlying23 w1.heap.size _ xs.length (xs.map bv) rfl hown2 _ ys rfl (Hy.out.below hb2) Hr.out hb2.size ?_; intro v3 w3 hown3 hf3))
    rw [← List.map_append] at hown3
    have hx3 := Bsl.of_own hown3
    have hb3 : Below w.heap.size w w3 := hb1.trans ((hb2.trans (hf3.below hb2.size)).mono hb1.size)
    clear hown3 hf3 hb2
    refine (from_any _ _ (xs ++ ys) _ Hs.out hx3 ?_ (by simpa using Hr.out)).mono ?_
    · intro c hc
      rcases List.mem_append.1 hc with h | h
      · exact Hb.out c h
      · exact Hb2.out c h
    rintro e w2 ⟨q3, rfl, hq, hu, rfl⟩
    obtain rfl : q2 = q3 := by rw [hq, fnv_app, ← H1.out, H2.out]
    clear hq hu
    go_wp2
    go_ret
    exact ⟨rfl, hb3⟩
end Go.Proofs.Ytkjconhhandhlab
