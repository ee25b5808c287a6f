/- SumOf: for every input the law returns true. -/
import Derived.Test.YtkjconhhandhlabSumAwake
import Derived.Test.YtkjconhhandhlabOpen
namespace Go.Proofs.Ytkjconhhandhlab
open Go.RowKit

set_option maxHeartbeats 400000 in
theorem sumof_walk (s : Nat) (A : Option Addr) (c : Nat) (xs : List Nat) (w : World) (hs : U64 s) (hx : Bsl w (.slice A xs.length c) xs) (hb : Byt xs) (hl : xs.length ≤ 140737488351232) :
    Calls Try.prog 3 #[.int .u64 (s : Int), .slice A xs.length c] w (Ok w) := by
  have Hs := Lib.hid hs; clear hs
  have Hb := Lib.hid hb; clear hb
  by_cases hgt : 600 < xs.length
  · clear hx
    go_enter Try.func3, Try.ntmps3
    go_wp2_with fail
    refine (awake_any _).mono ?_
    rintro e w1 ⟨rfl, hb1⟩
    go_wp2
    go_ret
    exact ⟨rfl, hb1⟩
  · have hr : Room2 xs.length := by unfold Room2; omega
    have Hr := Lib.hid hr; clear hr
    go_enter Try.func3, Try.ntmps3
    go_wp2_with fail
    refine (awake_any _).mono ?_
    rintro e w1 ⟨rfl, hb1⟩
    have Hx := Lib.hid (hx.below hb1); clear hx
    go_wp2_with fail
    refine (of_any _ xs _ Hx.out Hb.out Hr.out).mono ?_
    rintro e w2 ⟨q1, rfl, hq, hu, rfl⟩
    have H1 := Lib.hid hq; clear hq hu
    go_wp2_with fail
    refine (rof_any _ xs _ Hx.out Hb.out Hr.out).mono ?_
    rintro e w2 ⟨q2, rfl, hq, hu, rfl⟩
    obtain rfl : q1 = q2 := H1.out.trans hq.symm
    clear hq hu
    go_wp2_with fail
    refine (from_any _ _ xs _ Hs.out Hx.out Hb.out Hr.out).mono ?_
    rintro e w2 ⟨q2, rfl, hq, hu, rfl⟩
    have H2 := Lib.hid hq; clear hq hu
    go_wp2_with fail
    refine (rfrom_any _ _ xs _ Hs.out Hx.out Hb.out Hr.out).mono ?_
    rintro e w2 ⟨q3, rfl, hq, hu, rfl⟩
    obtain rfl : q2 = q3 := H2.out.trans hq.symm
    clear hq hu
    go_wp2_with fail
    refine (of_any _ xs _ Hx.out Hb.out Hr.out).mono ?_
    rintro e w2 ⟨q3, rfl, hq, hu, rfl⟩
    obtain rfl : q1 = q3 := H1.out.trans hq.symm
    clear hq hu
    go_wp2_with fail
    refine (from_any fbase _ xs _ (by unfold U64 fbase; decide) Hx.out Hb.out Hr.out).mono ?_
    rintro e w2 ⟨q3, rfl, hq, hu, rfl⟩
    obtain rfl : q1 = q3 := H1.out.trans hq.symm
    clear hq hu
    go_wp2
    go_ret
    exact ⟨rfl, hb1⟩
end Go.Proofs.Ytkjconhhandhlab
