/- BitsSubsets: for every input the law returns true. -/
import Derived.Test.YtaedijblgogmmaaDoorBitsAlg
namespace Go.Proofs.YtaedijblgogmmaaDoor
open Go.RowKit

set_option maxHeartbeats 4000000 in
theorem bitssubsets_walk (Aa : Option Addr) (ca : Nat) (a : List Nat) (Ab : Option Addr) (cb : Nat) (b : List Nat) (w : World) (hT : Tab w) (ha : Sl uv w (.slice Aa a.length ca) a) (wa : Wds a) (la : a.length ≤ 17592186044000) (hb : Sl uv w (.slice Ab b.length cb) b) (wb : Wds b) (lb : b.length ≤ 17592186044000) :
    Calls Tryd.prog 7 #[.slice Aa a.length ca, .slice Ab b.length cb] w (Ok w) := by
  have fa : Fine a := ⟨wa, by unfold Room2; omega⟩
  have Ha := Lib.hid ha; have Fa := Lib.hid fa
  have fb : Fine b := ⟨wb, by unfold Room2; omega⟩
  have Hb := Lib.hid hb; have Fb := Lib.hid fb
  have HT := Lib.hid hT
  have HB := Lib.hid (Below.refl w.heap.size w)
  clear hT ha wa la fa hb wb lb fb
  by_cases hab : a.length ≤ 70 ∧ b.length ≤ 70
  · have dab := decide_eq_true hab
    clear hab
    cases hs : subM a b
    · have g1 := f_sub1 Fa.out Fb.out
      have g2 := f_sub2 (a := a) (b := b)
      have g3 := f_sub3 (a := a) (b := b)
      rw [hs] at g1 g2 g3
      obtain ⟨m, hm⟩ : ∃ m, slen (SM a b) = m := ⟨_, rfl⟩
      rw [hm] at g1
      have t0 := of_decide_eq_false g1.symm
      have t1 : ((m : Int) == 0) = false := by
        rw [beq_eq_false_iff_ne]
        omega
      have Hs := Lib.hid hs; have G2 := Lib.hid g2; have G3 := Lib.hid g3; have HM := Lib.hid hm
      clear hs g1 g2 g3 hm t0
      go_enter Tryd.func7, Tryd.ntmps7
      go_wp2_with fail
      refine (awake_any _ HT.out).mono ?_
      rintro e w1 ⟨rfl, hb⟩
      replace HB := Lib.hid (HB.out.trans (hb.mono HB.out.size))
      replace Ha := Lib.hid (Ha.out.below hb)
      replace Hb := Lib.hid (Hb.out.below hb)
      replace HT := Lib.hid (HT.out.below hb HT.out.size)
      clear hb
      go_wp2_with fail
      refine (few_any _ _ _ _ _ _ _).mono ?_
      rintro e w2 ⟨rfl, rfl⟩
      rw [dab]
      go_wp2_with fail
      refine (sub_f Ha.out Hb.out Fa.out Fb.out false Hs.out).mono ?_
      rintro e w3 ⟨rfl, rfl⟩
      go_wp2_with fail
      refine (minus_f Ha.out Hb.out Fa.out Fb.out).mono ?_
      rintro e w4 ⟨vx, rfl, hx, hb⟩
      have Hx := Lib.hid hx
      clear hx
      replace HB := Lib.hid (HB.out.trans (hb.mono HB.out.size))
      replace Ha := Lib.hid (Ha.out.below hb)
      replace Hb := Lib.hid (Hb.out.below hb)
      replace HT := Lib.hid (HT.out.below hb HT.out.size)
      clear hb
      have Fx : Hid (Fine (SM (a) (b))) := Fa.out.SM Fb.out
      go_wp2_with fail
      refine (len_f Hx.out Fx.out m HM.out).mono ?_
      rintro e w5 ⟨rfl, rfl⟩
      clear Hx Fx
      go_wp2_with fail
      refine (union_f Ha.out Hb.out Fa.out Fb.out).mono ?_
      rintro e w6 ⟨vx, rfl, hx, hb⟩
      have Hx := Lib.hid hx
      clear hx
      replace HB := Lib.hid (HB.out.trans (hb.mono HB.out.size))
      replace Ha := Lib.hid (Ha.out.below hb)
      replace Hb := Lib.hid (Hb.out.below hb)
      replace HT := Lib.hid (HT.out.below hb HT.out.size)
      clear hb
      have Fx : Hid (Fine (SU (a) (b))) := Fa.out.SU Fb.out
      go_wp2_with fail
      refine (equal_f Hx.out Hb.out Fx.out Fb.out false (G2.out.symm)).mono ?_
      rintro e w7 ⟨rfl, hb⟩
      replace HB := Lib.hid (HB.out.trans (hb.mono HB.out.size))
      replace Ha := Lib.hid (Ha.out.below hb)
      replace Hb := Lib.hid (Hb.out.below hb)
      replace Hx := Lib.hid (Hx.out.below hb)
      replace HT := Lib.hid (HT.out.below hb HT.out.size)
      clear hb
      clear Hx Fx
      go_wp2_with fail
      refine (inter_f Ha.out Hb.out Fa.out Fb.out).mono ?_
      rintro e w8 ⟨vx, rfl, hx, hb⟩
      have Hx := Lib.hid hx
      clear hx
      replace HB := Lib.hid (HB.out.trans (hb.mono HB.out.size))
      replace Ha := Lib.hid (Ha.out.below hb)
      replace Hb := Lib.hid (Hb.out.below hb)
      replace HT := Lib.hid (HT.out.below hb HT.out.size)
      clear hb
      have Fx : Hid (Fine (SI (a) (b))) := Fa.out.SI Fb.out
      go_wp2_with fail
      refine (equal_f Hx.out Ha.out Fx.out Fa.out false (G3.out.symm)).mono ?_
      rintro e w9 ⟨rfl, hb⟩
      replace HB := Lib.hid (HB.out.trans (hb.mono HB.out.size))
      replace Ha := Lib.hid (Ha.out.below hb)
      replace Hb := Lib.hid (Hb.out.below hb)
      replace Hx := Lib.hid (Hx.out.below hb)
      replace HT := Lib.hid (HT.out.below hb HT.out.size)
      clear hb
      clear Hx Fx
      go_wp2_with fail
      refine (inter_f Ha.out Hb.out Fa.out Fb.out).mono ?_
      rintro e w10 ⟨vx, rfl, hx, hb⟩
      have Hx := Lib.hid hx
      clear hx
      replace HB := Lib.hid (HB.out.trans (hb.mono HB.out.size))
      replace Ha := Lib.hid (Ha.out.below hb)
      replace Hb := Lib.hid (Hb.out.below hb)
      replace HT := Lib.hid (HT.out.below hb HT.out.size)
      clear hb
      have Fx : Hid (Fine (SI (a) (b))) := Fa.out.SI Fb.out
      go_wp2_with fail
      refine (sub_f Hx.out Hb.out Fx.out Fb.out true f_sub4).mono ?_
      rintro e w11 ⟨rfl, rfl⟩
      clear Hx Fx
      go_wp2_with fail
      refine (union_f Ha.out Hb.out Fa.out Fb.out).mono ?_
      rintro e w12 ⟨vx, rfl, hx, hb⟩
      have Hx := Lib.hid hx
      clear hx
      replace HB := Lib.hid (HB.out.trans (hb.mono HB.out.size))
      replace Ha := Lib.hid (Ha.out.below hb)
      replace Hb := Lib.hid (Hb.out.below hb)
      replace HT := Lib.hid (HT.out.below hb HT.out.size)
      clear hb
      have Fx : Hid (Fine (SU (a) (b))) := Fa.out.SU Fb.out
      go_wp2_with fail
      refine (sub_f Ha.out Hx.out Fa.out Fx.out true f_sub5).mono ?_
      rintro e w13 ⟨rfl, rfl⟩
      clear Hx Fx
      go_wp2
      go_ret
      exact ⟨rfl, HB.out⟩
    · have g1 := f_sub1 Fa.out Fb.out
      have g2 := f_sub2 (a := a) (b := b)
      have g3 := f_sub3 (a := a) (b := b)
      rw [hs] at g1 g2 g3
      obtain ⟨m, hm⟩ : ∃ m, slen (SM a b) = m := ⟨_, rfl⟩
      rw [hm] at g1
      have t0 := of_decide_eq_true g1.symm
      have t1 : ((m : Int) == 0) = true := by
        rw [beq_iff_eq]
        omega
      have Hs := Lib.hid hs; have G2 := Lib.hid g2; have G3 := Lib.hid g3; have HM := Lib.hid hm
      clear hs g1 g2 g3 hm t0
      go_enter Tryd.func7, Tryd.ntmps7
      go_wp2_with fail
      refine (awake_any _ HT.out).mono ?_
      rintro e w1 ⟨rfl, hb⟩
      replace HB := Lib.hid (HB.out.trans (hb.mono HB.out.size))
      replace Ha := Lib.hid (Ha.out.below hb)
      replace Hb := Lib.hid (Hb.out.below hb)
      replace HT := Lib.hid (HT.out.below hb HT.out.size)
      clear hb
      go_wp2_with fail
      refine (few_any _ _ _ _ _ _ _).mono ?_
      rintro e w2 ⟨rfl, rfl⟩
      rw [dab]
      go_wp2_with fail
      refine (sub_f Ha.out Hb.out Fa.out Fb.out true Hs.out).mono ?_
      rintro e w3 ⟨rfl, rfl⟩
      go_wp2_with fail
      refine (minus_f Ha.out Hb.out Fa.out Fb.out).mono ?_
      rintro e w4 ⟨vx, rfl, hx, hb⟩
      have Hx := Lib.hid hx
      clear hx
      replace HB := Lib.hid (HB.out.trans (hb.mono HB.out.size))
      replace Ha := Lib.hid (Ha.out.below hb)
      replace Hb := Lib.hid (Hb.out.below hb)
      replace HT := Lib.hid (HT.out.below hb HT.out.size)
      clear hb
      have Fx : Hid (Fine (SM (a) (b))) := Fa.out.SM Fb.out
      go_wp2_with fail
      refine (len_f Hx.out Fx.out m HM.out).mono ?_
      rintro e w5 ⟨rfl, rfl⟩
      clear Hx Fx
      go_wp2_with fail
      refine (union_f Ha.out Hb.out Fa.out Fb.out).mono ?_
      rintro e w6 ⟨vx, rfl, hx, hb⟩
      have Hx := Lib.hid hx
      clear hx
      replace HB := Lib.hid (HB.out.trans (hb.mono HB.out.size))
      replace Ha := Lib.hid (Ha.out.below hb)
      replace Hb := Lib.hid (Hb.out.below hb)
      replace HT := Lib.hid (HT.out.below hb HT.out.size)
      clear hb
      have Fx : Hid (Fine (SU (a) (b))) := Fa.out.SU Fb.out
      go_wp2_with fail
      refine (equal_f Hx.out Hb.out Fx.out Fb.out true (G2.out.symm)).mono ?_
      rintro e w7 ⟨rfl, hb⟩
      replace HB := Lib.hid (HB.out.trans (hb.mono HB.out.size))
      replace Ha := Lib.hid (Ha.out.below hb)
      replace Hb := Lib.hid (Hb.out.below hb)
      replace Hx := Lib.hid (Hx.out.below hb)
      replace HT := Lib.hid (HT.out.below hb HT.out.size)
      clear hb
      clear Hx Fx
      go_wp2_with fail
      refine (inter_f Ha.out Hb.out Fa.out Fb.out).mono ?_
      rintro e w8 ⟨vx, rfl, hx, hb⟩
      have Hx := Lib.hid hx
      clear hx
      replace HB := Lib.hid (HB.out.trans (hb.mono HB.out.size))
      replace Ha := Lib.hid (Ha.out.below hb)
      replace Hb := Lib.hid (Hb.out.below hb)
      replace HT := Lib.hid (HT.out.below hb HT.out.size)
      clear hb
      have Fx : Hid (Fine (SI (a) (b))) := Fa.out.SI Fb.out
      go_wp2_with fail
      refine (equal_f Hx.out Ha.out Fx.out Fa.out true (G3.out.symm)).mono ?_
      rintro e w9 ⟨rfl, hb⟩
      replace HB := Lib.hid (HB.out.trans (hb.mono HB.out.size))
      replace Ha := Lib.hid (Ha.out.below hb)
      replace Hb := Lib.hid (Hb.out.below hb)
      replace Hx := Lib.hid (Hx.out.below hb)
      replace HT := Lib.hid (HT.out.below hb HT.out.size)
      clear hb
      clear Hx Fx
      go_wp2_with fail
      refine (inter_f Ha.out Hb.out Fa.out Fb.out).mono ?_
      rintro e w10 ⟨vx, rfl, hx, hb⟩
      have Hx := Lib.hid hx
      clear hx
      replace HB := Lib.hid (HB.out.trans (hb.mono HB.out.size))
      replace Ha := Lib.hid (Ha.out.below hb)
      replace Hb := Lib.hid (Hb.out.below hb)
      replace HT := Lib.hid (HT.out.below hb HT.out.size)
      clear hb
      have Fx : Hid (Fine (SI (a) (b))) := Fa.out.SI Fb.out
      go_wp2_with fail
      refine (sub_f Hx.out Hb.out Fx.out Fb.out true f_sub4).mono ?_
      rintro e w11 ⟨rfl, rfl⟩
      clear Hx Fx
      go_wp2_with fail
      refine (union_f Ha.out Hb.out Fa.out Fb.out).mono ?_
      rintro e w12 ⟨vx, rfl, hx, hb⟩
      have Hx := Lib.hid hx
      clear hx
      replace HB := Lib.hid (HB.out.trans (hb.mono HB.out.size))
      replace Ha := Lib.hid (Ha.out.below hb)
      replace Hb := Lib.hid (Hb.out.below hb)
      replace HT := Lib.hid (HT.out.below hb HT.out.size)
      clear hb
      have Fx : Hid (Fine (SU (a) (b))) := Fa.out.SU Fb.out
      go_wp2_with fail
      refine (sub_f Ha.out Hx.out Fa.out Fx.out true f_sub5).mono ?_
      rintro e w13 ⟨rfl, rfl⟩
      clear Hx Fx
      go_wp2
      go_ret
      exact ⟨rfl, HB.out⟩
  · have dab := decide_eq_false hab
    clear hab
    go_enter Tryd.func7, Tryd.ntmps7
    go_wp2_with fail
    refine (awake_any _ HT.out).mono ?_
    rintro e w1 ⟨rfl, hb⟩
    replace HB := Lib.hid (HB.out.trans (hb.mono HB.out.size))
    replace Ha := Lib.hid (Ha.out.below hb)
    replace Hb := Lib.hid (Hb.out.below hb)
    replace HT := Lib.hid (HT.out.below hb HT.out.size)
    clear hb
    go_wp2_with fail
    refine (few_any _ _ _ _ _ _ _).mono ?_
    rintro e w2 ⟨rfl, rfl⟩
    rw [dab]
    go_wp2
    go_ret
    exact ⟨rfl, HB.out⟩
end Go.Proofs.YtaedijblgogmmaaDoor
