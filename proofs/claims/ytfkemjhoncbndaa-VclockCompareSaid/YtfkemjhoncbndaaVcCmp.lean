/- VclockCompare: for every input the law returns true (tools/vclaw_gen.py). -/
import Derived.Test.YtfkemjhoncbndaaVcAw
namespace Go.Proofs.Ytfkemjhoncbndaa
open Go.RowKit

set_option maxRecDepth 100000 in
set_option maxHeartbeats 4000000 in
theorem vclockcompare_walk (A : Option Addr) (c : Nat) (a : List Int) (A2 : Option Addr) (c2 : Nat) (b : List Int) (w : World) (ha : Sl iv w (.slice A a.length c) a) (_ : a.length ≤ 17592186044000) (hb : Sl iv w (.slice A2 b.length c2) b) (_ : b.length ≤ 17592186044000) :
    Calls Try.prog 3 #[.slice A a.length c, .slice A2 b.length c2] w (Ok w) := by
  have Ha := Lib.hid ha; have Hb := Lib.hid hb
  clear ha hb
  have HB := Lib.hid (Below.refl w.heap.size w)
  cases hfew : fewB a.length b.length with
  | false =>
    have Hfew := Lib.hid hfew
    clear hfew
    go_enter Try.func3, Try.ntmps3
    go_wp2_with fail
    refine (awake_any _).mono ?_
    rintro e w1 ⟨rfl, hb⟩
    replace HB := Lib.hid (HB.out.trans (hb.mono HB.out.size))
    replace Ha := Lib.hid (Ha.out.below hb)
    replace Hb := Lib.hid (Hb.out.below hb)
    clear hb
    go_wp2_with fail
    refine (few_any _ _ _ _ _ _ _).mono ?_
    rintro e w2 ⟨rfl, rfl⟩
    rw [Hfew.out]
    go_wp2
    go_ret
    exact ⟨rfl, HB.out⟩
  | true =>
    have Hfew := Lib.hid hfew
    unfold fewB at hfew
    rw [decide_eq_true_iff] at hfew
    obtain ⟨la, lb⟩ := hfew
    go_enter Try.func3, Try.ntmps3
    go_wp2_with fail
    refine (awake_any _).mono ?_
    rintro e w1 ⟨rfl, hb⟩
    replace HB := Lib.hid (HB.out.trans (hb.mono HB.out.size))
    replace Ha := Lib.hid (Ha.out.below hb)
    replace Hb := Lib.hid (Hb.out.below hb)
    clear hb
    go_wp2_with fail
    refine (few_any _ _ _ _ _ _ _).mono ?_
    rintro e w2 ⟨rfl, rfl⟩
    rw [Hfew.out]
    have he := eqB_self a
    obtain ⟨r1, hr1⟩ : ∃ r, r = okB a := ⟨_, rfl⟩
    obtain ⟨r2, hr2⟩ : ∃ r, r = bfB a b := ⟨_, rfl⟩
    obtain ⟨r3, hr3⟩ : ∃ r, r = ccB a b := ⟨_, rfl⟩
    obtain ⟨r4, hr4⟩ : ∃ r, r = eqB a b := ⟨_, rfl⟩
    have HR1 := Lib.hid hr1.symm; have HR2 := Lib.hid hr2.symm; have HR3 := Lib.hid hr3.symm; have HR4 := Lib.hid hr4.symm; have HE := Lib.hid he
    clear hr1 hr2 hr3 hr4 he
    go_wp2_with fail
    refine (valid_any _ _ _ Ha.out (by omega)).mono ?_
    rintro e w3 ⟨rfl, rfl⟩
    rw [HR1.out]
    go_wp2_with fail
    refine (rvalid_any _ _ _ Ha.out (by omega)).mono ?_
    rintro e w3 ⟨rfl, rfl⟩
    rw [HR1.out]
    go_wp2_with fail
    refine (before_any _ _ _ _ _ Ha.out Hb.out (by omega) (by omega)).mono ?_
    rintro e w3 ⟨rfl, hq⟩
    have hb := quiet_below hq
    replace HB := Lib.hid (HB.out.trans (hb.mono HB.out.size))
    replace Ha := Lib.hid (Ha.out.below hb)
    replace Hb := Lib.hid (Hb.out.below hb)
    clear hb hq
    rw [HR2.out]
    go_wp2_with fail
    refine (rbefore_any _ _ _ _ _ Ha.out Hb.out (by omega) (by omega)).mono ?_
    rintro e w4 ⟨rfl, hq⟩
    have hb := quiet_below hq
    replace HB := Lib.hid (HB.out.trans (hb.mono HB.out.size))
    replace Ha := Lib.hid (Ha.out.below hb)
    replace Hb := Lib.hid (Hb.out.below hb)
    clear hb hq
    rw [HR2.out]
    go_wp2_with fail
    refine (conc_any _ _ _ _ _ Ha.out Hb.out (by omega) (by omega)).mono ?_
    rintro e w5 ⟨rfl, hq⟩
    have hb := quiet_below hq
    replace HB := Lib.hid (HB.out.trans (hb.mono HB.out.size))
    replace Ha := Lib.hid (Ha.out.below hb)
    replace Hb := Lib.hid (Hb.out.below hb)
    clear hb hq
    rw [HR3.out]
    go_wp2_with fail
    refine (rconc_any _ _ _ _ _ Ha.out Hb.out (by omega) (by omega)).mono ?_
    rintro e w6 ⟨rfl, hq⟩
    have hb := quiet_below hq
    replace HB := Lib.hid (HB.out.trans (hb.mono HB.out.size))
    replace Ha := Lib.hid (Ha.out.below hb)
    replace Hb := Lib.hid (Hb.out.below hb)
    clear hb hq
    rw [HR3.out]
    go_wp2_with fail
    refine (equal_any _ _ _ _ _ Ha.out Hb.out (by omega) (by omega)).mono ?_
    rintro e w7 ⟨rfl, hq⟩
    have hb := quiet_below hq
    replace HB := Lib.hid (HB.out.trans (hb.mono HB.out.size))
    replace Ha := Lib.hid (Ha.out.below hb)
    replace Hb := Lib.hid (Hb.out.below hb)
    clear hb hq
    rw [HR4.out]
    go_wp2_with fail
    refine (requal_any _ _ _ _ _ Ha.out Hb.out (by omega) (by omega)).mono ?_
    rintro e w8 ⟨rfl, hq⟩
    have hb := quiet_below hq
    replace HB := Lib.hid (HB.out.trans (hb.mono HB.out.size))
    replace Ha := Lib.hid (Ha.out.below hb)
    replace Hb := Lib.hid (Hb.out.below hb)
    clear hb hq
    rw [HR4.out]
    go_wp2_with fail
    refine (equal_any _ _ _ _ _ Ha.out Ha.out (by omega) (by omega)).mono ?_
    rintro e w9 ⟨rfl, hq⟩
    have hb := quiet_below hq
    replace HB := Lib.hid (HB.out.trans (hb.mono HB.out.size))
    clear hb hq
    rw [HE.out]
    go_wp2
    go_ret
    exact ⟨rfl, HB.out⟩
end Go.Proofs.Ytfkemjhoncbndaa
