/- BitsAlgebra: for every input the law returns true. -/
import Derived.Test.YtaedijblgogmmaaDoorBitsAlg
namespace Go.Proofs.YtaedijblgogmmaaDoor
open Go.RowKit

set_option maxHeartbeats 4000000 in
theorem bitsalgebra_walk (Aa : Option Addr) (ca : Nat) (a : List Nat) (Ab : Option Addr) (cb : Nat) (b : List Nat) (Ac : Option Addr) (cc : Nat) (c : List Nat) (w : World) (hT : Tab w) (ha : Sl uv w (.slice Aa a.length ca) a) (wa : Wds a) (la : a.length ≤ 17592186044000) (hb : Sl uv w (.slice Ab b.length cb) b) (wb : Wds b) (lb : b.length ≤ 17592186044000) (hc : Sl uv w (.slice Ac c.length cc) c) (wc : Wds c) (lc : c.length ≤ 17592186044000) :
    Calls Tryd.prog 6 #[.slice Aa a.length ca, .slice Ab b.length cb, .slice Ac c.length cc] w (Ok w) := by
  have fa : Fine a := ⟨wa, by unfold Room2; omega⟩
  have Ha := Lib.hid ha; have Fa := Lib.hid fa
  have fb : Fine b := ⟨wb, by unfold Room2; omega⟩
  have Hb := Lib.hid hb; have Fb := Lib.hid fb
  have fc : Fine c := ⟨wc, by unfold Room2; omega⟩
  have Hc := Lib.hid hc; have Fc := Lib.hid fc
  have HT := Lib.hid hT
  have HB := Lib.hid (Below.refl w.heap.size w)
  clear hT ha wa la fa hb wb lb fb hc wc lc fc
  by_cases hab : a.length ≤ 70 ∧ b.length ≤ 70
  · by_cases hcc : c.length ≤ 70
    · have dab := decide_eq_true hab
      have dcc := decide_eq_true (show c.length ≤ 70 ∧ 0 ≤ 70 from ⟨hcc, by decide⟩)
      clear hab hcc
      go_enter Tryd.func6, Tryd.ntmps6
      go_wp2_with fail
      refine (awake_any _ HT.out).mono ?_
      rintro e w1 ⟨rfl, hb⟩
      replace HB := Lib.hid (HB.out.trans (hb.mono HB.out.size))
      replace Ha := Lib.hid (Ha.out.below hb)
      replace Hb := Lib.hid (Hb.out.below hb)
      replace Hc := Lib.hid (Hc.out.below hb)
      replace HT := Lib.hid (HT.out.below hb HT.out.size)
      clear hb
      go_wp2_with fail
      refine (few_any _ _ _ _ _ _ _).mono ?_
      rintro e w2 ⟨rfl, rfl⟩
      rw [dab]
      go_wp2_with fail
      refine (few_any _ _ _ _ _ _ _).mono ?_
      rintro e w3 ⟨rfl, rfl⟩
      rw [dcc]
      go_wp2_with fail
      refine (union_f Ha.out Hb.out Fa.out Fb.out).mono ?_
      rintro e w4 ⟨vu, rfl, hu, hb⟩
      have Hu := Lib.hid hu
      clear hu
      replace HB := Lib.hid (HB.out.trans (hb.mono HB.out.size))
      replace Ha := Lib.hid (Ha.out.below hb)
      replace Hb := Lib.hid (Hb.out.below hb)
      replace Hc := Lib.hid (Hc.out.below hb)
      replace HT := Lib.hid (HT.out.below hb HT.out.size)
      clear hb
      have Fu : Hid (Fine (SU (a) (b))) := Fa.out.SU Fb.out
      go_wp2_with fail
      refine (inter_f Ha.out Hb.out Fa.out Fb.out).mono ?_
      rintro e w5 ⟨vv, rfl, hv, hb⟩
      have Hv := Lib.hid hv
      clear hv
      replace HB := Lib.hid (HB.out.trans (hb.mono HB.out.size))
      replace Ha := Lib.hid (Ha.out.below hb)
      replace Hb := Lib.hid (Hb.out.below hb)
      replace Hc := Lib.hid (Hc.out.below hb)
      replace Hu := Lib.hid (Hu.out.below hb)
      replace HT := Lib.hid (HT.out.below hb HT.out.size)
      clear hb
      have Fv : Hid (Fine (SI (a) (b))) := Fa.out.SI Fb.out
      go_wp2_with fail
      refine (union_f Hb.out Ha.out Fb.out Fa.out).mono ?_
      rintro e w6 ⟨vx, rfl, hx, hb⟩
      have Hx := Lib.hid hx
      clear hx
      replace HB := Lib.hid (HB.out.trans (hb.mono HB.out.size))
      replace Ha := Lib.hid (Ha.out.below hb)
      replace Hb := Lib.hid (Hb.out.below hb)
      replace Hc := Lib.hid (Hc.out.below hb)
      replace Hu := Lib.hid (Hu.out.below hb)
      replace Hv := Lib.hid (Hv.out.below hb)
      replace HT := Lib.hid (HT.out.below hb HT.out.size)
      clear hb
      have Fx : Hid (Fine (SU (b) (a))) := Fb.out.SU Fa.out
      go_wp2_with fail
      refine (equal_f Hu.out Hx.out Fu.out Fx.out true (decide_eq_true (f_ucomm a b))).mono ?_
      rintro e w7 ⟨rfl, hb⟩
      replace HB := Lib.hid (HB.out.trans (hb.mono HB.out.size))
      replace Ha := Lib.hid (Ha.out.below hb)
      replace Hb := Lib.hid (Hb.out.below hb)
      replace Hc := Lib.hid (Hc.out.below hb)
      replace Hu := Lib.hid (Hu.out.below hb)
      replace Hv := Lib.hid (Hv.out.below hb)
      replace Hx := Lib.hid (Hx.out.below hb)
      replace HT := Lib.hid (HT.out.below hb HT.out.size)
      clear hb
      clear Hx Fx
      go_wp2_with fail
      refine (inter_f Hb.out Ha.out Fb.out Fa.out).mono ?_
      rintro e w8 ⟨vx, rfl, hx, hb⟩
      have Hx := Lib.hid hx
      clear hx
      replace HB := Lib.hid (HB.out.trans (hb.mono HB.out.size))
      replace Ha := Lib.hid (Ha.out.below hb)
      replace Hb := Lib.hid (Hb.out.below hb)
      replace Hc := Lib.hid (Hc.out.below hb)
      replace Hu := Lib.hid (Hu.out.below hb)
      replace Hv := Lib.hid (Hv.out.below hb)
      replace HT := Lib.hid (HT.out.below hb HT.out.size)
      clear hb
      have Fx : Hid (Fine (SI (b) (a))) := Fb.out.SI Fa.out
      go_wp2_with fail
      refine (equal_f Hv.out Hx.out Fv.out Fx.out true (decide_eq_true (f_icomm a b))).mono ?_
      rintro e w9 ⟨rfl, hb⟩
      replace HB := Lib.hid (HB.out.trans (hb.mono HB.out.size))
      replace Ha := Lib.hid (Ha.out.below hb)
      replace Hb := Lib.hid (Hb.out.below hb)
      replace Hc := Lib.hid (Hc.out.below hb)
      replace Hu := Lib.hid (Hu.out.below hb)
      replace Hv := Lib.hid (Hv.out.below hb)
      replace Hx := Lib.hid (Hx.out.below hb)
      replace HT := Lib.hid (HT.out.below hb HT.out.size)
      clear hb
      clear Hx Fx
      go_wp2_with fail
      refine (union_f Ha.out Ha.out Fa.out Fa.out).mono ?_
      rintro e w10 ⟨vx, rfl, hx, hb⟩
      have Hx := Lib.hid hx
      clear hx
      replace HB := Lib.hid (HB.out.trans (hb.mono HB.out.size))
      replace Ha := Lib.hid (Ha.out.below hb)
      replace Hb := Lib.hid (Hb.out.below hb)
      replace Hc := Lib.hid (Hc.out.below hb)
      replace Hu := Lib.hid (Hu.out.below hb)
      replace Hv := Lib.hid (Hv.out.below hb)
      replace HT := Lib.hid (HT.out.below hb HT.out.size)
      clear hb
      have Fx : Hid (Fine (SU (a) (a))) := Fa.out.SU Fa.out
      go_wp2_with fail
      refine (equal_f Hx.out Ha.out Fx.out Fa.out true (decide_eq_true (f_uself a))).mono ?_
      rintro e w11 ⟨rfl, hb⟩
      replace HB := Lib.hid (HB.out.trans (hb.mono HB.out.size))
      replace Ha := Lib.hid (Ha.out.below hb)
      replace Hb := Lib.hid (Hb.out.below hb)
      replace Hc := Lib.hid (Hc.out.below hb)
      replace Hu := Lib.hid (Hu.out.below hb)
      replace Hv := Lib.hid (Hv.out.below hb)
      replace Hx := Lib.hid (Hx.out.below hb)
      replace HT := Lib.hid (HT.out.below hb HT.out.size)
      clear hb
      clear Hx Fx
      go_wp2_with fail
      refine (inter_f Ha.out Ha.out Fa.out Fa.out).mono ?_
      rintro e w12 ⟨vx, rfl, hx, hb⟩
      have Hx := Lib.hid hx
      clear hx
      replace HB := Lib.hid (HB.out.trans (hb.mono HB.out.size))
      replace Ha := Lib.hid (Ha.out.below hb)
      replace Hb := Lib.hid (Hb.out.below hb)
      replace Hc := Lib.hid (Hc.out.below hb)
      replace Hu := Lib.hid (Hu.out.below hb)
      replace Hv := Lib.hid (Hv.out.below hb)
      replace HT := Lib.hid (HT.out.below hb HT.out.size)
      clear hb
      have Fx : Hid (Fine (SI (a) (a))) := Fa.out.SI Fa.out
      go_wp2_with fail
      refine (equal_f Hx.out Ha.out Fx.out Fa.out true (decide_eq_true (f_iself a))).mono ?_
      rintro e w13 ⟨rfl, hb⟩
      replace HB := Lib.hid (HB.out.trans (hb.mono HB.out.size))
      replace Ha := Lib.hid (Ha.out.below hb)
      replace Hb := Lib.hid (Hb.out.below hb)
      replace Hc := Lib.hid (Hc.out.below hb)
      replace Hu := Lib.hid (Hu.out.below hb)
      replace Hv := Lib.hid (Hv.out.below hb)
      replace Hx := Lib.hid (Hx.out.below hb)
      replace HT := Lib.hid (HT.out.below hb HT.out.size)
      clear hb
      clear Hx Fx
      go_wp2_with fail
      refine (union_f Hu.out Hc.out Fu.out Fc.out).mono ?_
      rintro e w14 ⟨vx, rfl, hx, hb⟩
      have Hx := Lib.hid hx
      clear hx
      replace HB := Lib.hid (HB.out.trans (hb.mono HB.out.size))
      replace Ha := Lib.hid (Ha.out.below hb)
      replace Hb := Lib.hid (Hb.out.below hb)
      replace Hc := Lib.hid (Hc.out.below hb)
      replace Hu := Lib.hid (Hu.out.below hb)
      replace Hv := Lib.hid (Hv.out.below hb)
      replace HT := Lib.hid (HT.out.below hb HT.out.size)
      clear hb
      have Fx : Hid (Fine (SU (SU (a) (b)) (c))) := Fu.out.SU Fc.out
      go_wp2_with fail
      refine (union_f Hb.out Hc.out Fb.out Fc.out).mono ?_
      rintro e w15 ⟨vy, rfl, hy, hb⟩
      have Hy := Lib.hid hy
      clear hy
      replace HB := Lib.hid (HB.out.trans (hb.mono HB.out.size))
      replace Ha := Lib.hid (Ha.out.below hb)
      replace Hb := Lib.hid (Hb.out.below hb)
      replace Hc := Lib.hid (Hc.out.below hb)
      replace Hu := Lib.hid (Hu.out.below hb)
      replace Hv := Lib.hid (Hv.out.below hb)
      replace Hx := Lib.hid (Hx.out.below hb)
      replace HT := Lib.hid (HT.out.below hb HT.out.size)
      clear hb
      have Fy : Hid (Fine (SU (b) (c))) := Fb.out.SU Fc.out
      go_wp2_with fail
      refine (union_f Ha.out Hy.out Fa.out Fy.out).mono ?_
      rintro e w16 ⟨vz, rfl, hz, hb⟩
      have Hz := Lib.hid hz
      clear hz
      replace HB := Lib.hid (HB.out.trans (hb.mono HB.out.size))
      replace Ha := Lib.hid (Ha.out.below hb)
      replace Hb := Lib.hid (Hb.out.below hb)
      replace Hc := Lib.hid (Hc.out.below hb)
      replace Hu := Lib.hid (Hu.out.below hb)
      replace Hv := Lib.hid (Hv.out.below hb)
      replace Hx := Lib.hid (Hx.out.below hb)
      replace Hy := Lib.hid (Hy.out.below hb)
      replace HT := Lib.hid (HT.out.below hb HT.out.size)
      clear hb
      have Fz : Hid (Fine (SU (a) (SU (b) (c)))) := Fa.out.SU Fy.out
      go_wp2_with fail
      refine (equal_f Hx.out Hz.out Fx.out Fz.out true (decide_eq_true (f_uassoc a b c))).mono ?_
      rintro e w17 ⟨rfl, hb⟩
      replace HB := Lib.hid (HB.out.trans (hb.mono HB.out.size))
      replace Ha := Lib.hid (Ha.out.below hb)
      replace Hb := Lib.hid (Hb.out.below hb)
      replace Hc := Lib.hid (Hc.out.below hb)
      replace Hu := Lib.hid (Hu.out.below hb)
      replace Hv := Lib.hid (Hv.out.below hb)
      replace Hx := Lib.hid (Hx.out.below hb)
      replace Hy := Lib.hid (Hy.out.below hb)
      replace Hz := Lib.hid (Hz.out.below hb)
      replace HT := Lib.hid (HT.out.below hb HT.out.size)
      clear hb
      clear Hx Fx Hy Fy Hz Fz
      go_wp2_with fail
      refine (inter_f Hv.out Hc.out Fv.out Fc.out).mono ?_
      rintro e w18 ⟨vx, rfl, hx, hb⟩
      have Hx := Lib.hid hx
      clear hx
      replace HB := Lib.hid (HB.out.trans (hb.mono HB.out.size))
      replace Ha := Lib.hid (Ha.out.below hb)
      replace Hb := Lib.hid (Hb.out.below hb)
      replace Hc := Lib.hid (Hc.out.below hb)
      replace Hu := Lib.hid (Hu.out.below hb)
      replace Hv := Lib.hid (Hv.out.below hb)
      replace HT := Lib.hid (HT.out.below hb HT.out.size)
      clear hb
      have Fx : Hid (Fine (SI (SI (a) (b)) (c))) := Fv.out.SI Fc.out
      go_wp2_with fail
      refine (inter_f Hb.out Hc.out Fb.out Fc.out).mono ?_
      rintro e w19 ⟨vy, rfl, hy, hb⟩
      have Hy := Lib.hid hy
      clear hy
      replace HB := Lib.hid (HB.out.trans (hb.mono HB.out.size))
      replace Ha := Lib.hid (Ha.out.below hb)
      replace Hb := Lib.hid (Hb.out.below hb)
      replace Hc := Lib.hid (Hc.out.below hb)
      replace Hu := Lib.hid (Hu.out.below hb)
      replace Hv := Lib.hid (Hv.out.below hb)
      replace Hx := Lib.hid (Hx.out.below hb)
      replace HT := Lib.hid (HT.out.below hb HT.out.size)
      clear hb
      have Fy : Hid (Fine (SI (b) (c))) := Fb.out.SI Fc.out
      go_wp2_with fail
      refine (inter_f Ha.out Hy.out Fa.out Fy.out).mono ?_
      rintro e w20 ⟨vz, rfl, hz, hb⟩
      have Hz := Lib.hid hz
      clear hz
      replace HB := Lib.hid (HB.out.trans (hb.mono HB.out.size))
      replace Ha := Lib.hid (Ha.out.below hb)
      replace Hb := Lib.hid (Hb.out.below hb)
      replace Hc := Lib.hid (Hc.out.below hb)
      replace Hu := Lib.hid (Hu.out.below hb)
      replace Hv := Lib.hid (Hv.out.below hb)
      replace Hx := Lib.hid (Hx.out.below hb)
      replace Hy := Lib.hid (Hy.out.below hb)
      replace HT := Lib.hid (HT.out.below hb HT.out.size)
      clear hb
      have Fz : Hid (Fine (SI (a) (SI (b) (c)))) := Fa.out.SI Fy.out
      go_wp2_with fail
      refine (equal_f Hx.out Hz.out Fx.out Fz.out true (decide_eq_true (f_iassoc a b c))).mono ?_
      rintro e w21 ⟨rfl, hb⟩
      replace HB := Lib.hid (HB.out.trans (hb.mono HB.out.size))
      replace Ha := Lib.hid (Ha.out.below hb)
      replace Hb := Lib.hid (Hb.out.below hb)
      replace Hc := Lib.hid (Hc.out.below hb)
      replace Hu := Lib.hid (Hu.out.below hb)
      replace Hv := Lib.hid (Hv.out.below hb)
      replace Hx := Lib.hid (Hx.out.below hb)
      replace Hy := Lib.hid (Hy.out.below hb)
      replace Hz := Lib.hid (Hz.out.below hb)
      replace HT := Lib.hid (HT.out.below hb HT.out.size)
      clear hb
      clear Hx Fx Hy Fy Hz Fz
      go_wp2_with fail
      refine (inter_f Hu.out Hc.out Fu.out Fc.out).mono ?_
      rintro e w22 ⟨vx, rfl, hx, hb⟩
      have Hx := Lib.hid hx
      clear hx
      replace HB := Lib.hid (HB.out.trans (hb.mono HB.out.size))
      replace Ha := Lib.hid (Ha.out.below hb)
      replace Hb := Lib.hid (Hb.out.below hb)
      replace Hc := Lib.hid (Hc.out.below hb)
      replace Hu := Lib.hid (Hu.out.below hb)
      replace Hv := Lib.hid (Hv.out.below hb)
      replace HT := Lib.hid (HT.out.below hb HT.out.size)
      clear hb
      have Fx : Hid (Fine (SI (SU (a) (b)) (c))) := Fu.out.SI Fc.out
      go_wp2_with fail
      refine (inter_f Ha.out Hc.out Fa.out Fc.out).mono ?_
      rintro e w23 ⟨vy, rfl, hy, hb⟩
      have Hy := Lib.hid hy
      clear hy
      replace HB := Lib.hid (HB.out.trans (hb.mono HB.out.size))
      replace Ha := Lib.hid (Ha.out.below hb)
      replace Hb := Lib.hid (Hb.out.below hb)
      replace Hc := Lib.hid (Hc.out.below hb)
      replace Hu := Lib.hid (Hu.out.below hb)
      replace Hv := Lib.hid (Hv.out.below hb)
      replace Hx := Lib.hid (Hx.out.below hb)
      replace HT := Lib.hid (HT.out.below hb HT.out.size)
      clear hb
      have Fy : Hid (Fine (SI (a) (c))) := Fa.out.SI Fc.out
      go_wp2_with fail
      refine (inter_f Hb.out Hc.out Fb.out Fc.out).mono ?_
      rintro e w24 ⟨vz, rfl, hz, hb⟩
      have Hz := Lib.hid hz
      clear hz
      replace HB := Lib.hid (HB.out.trans (hb.mono HB.out.size))
      replace Ha := Lib.hid (Ha.out.below hb)
      replace Hb := Lib.hid (Hb.out.below hb)
      replace Hc := Lib.hid (Hc.out.below hb)
      replace Hu := Lib.hid (Hu.out.below hb)
      replace Hv := Lib.hid (Hv.out.below hb)
      replace Hx := Lib.hid (Hx.out.below hb)
      replace Hy := Lib.hid (Hy.out.below hb)
      replace HT := Lib.hid (HT.out.below hb HT.out.size)
      clear hb
      have Fz : Hid (Fine (SI (b) (c))) := Fb.out.SI Fc.out
      go_wp2_with fail
      refine (union_f Hy.out Hz.out Fy.out Fz.out).mono ?_
      rintro e w25 ⟨vt, rfl, ht, hb⟩
      have Ht := Lib.hid ht
      clear ht
      replace HB := Lib.hid (HB.out.trans (hb.mono HB.out.size))
      replace Ha := Lib.hid (Ha.out.below hb)
      replace Hb := Lib.hid (Hb.out.below hb)
      replace Hc := Lib.hid (Hc.out.below hb)
      replace Hu := Lib.hid (Hu.out.below hb)
      replace Hv := Lib.hid (Hv.out.below hb)
      replace Hx := Lib.hid (Hx.out.below hb)
      replace Hy := Lib.hid (Hy.out.below hb)
      replace Hz := Lib.hid (Hz.out.below hb)
      replace HT := Lib.hid (HT.out.below hb HT.out.size)
      clear hb
      have Ft : Hid (Fine (SU (SI (a) (c)) (SI (b) (c)))) := Fy.out.SU Fz.out
      go_wp2_with fail
      refine (equal_f Hx.out Ht.out Fx.out Ft.out true (decide_eq_true (f_dist1 a b c))).mono ?_
      rintro e w26 ⟨rfl, hb⟩
      replace HB := Lib.hid (HB.out.trans (hb.mono HB.out.size))
      replace Ha := Lib.hid (Ha.out.below hb)
      replace Hb := Lib.hid (Hb.out.below hb)
      replace Hc := Lib.hid (Hc.out.below hb)
      replace Hu := Lib.hid (Hu.out.below hb)
      replace Hv := Lib.hid (Hv.out.below hb)
      replace Hx := Lib.hid (Hx.out.below hb)
      replace Hy := Lib.hid (Hy.out.below hb)
      replace Hz := Lib.hid (Hz.out.below hb)
      replace Ht := Lib.hid (Ht.out.below hb)
      replace HT := Lib.hid (HT.out.below hb HT.out.size)
      clear hb
      clear Hx Fx Hy Fy Hz Fz Ht Ft
      go_wp2_with fail
      refine (union_f Hv.out Hc.out Fv.out Fc.out).mono ?_
      rintro e w27 ⟨vx, rfl, hx, hb⟩
      have Hx := Lib.hid hx
      clear hx
      replace HB := Lib.hid (HB.out.trans (hb.mono HB.out.size))
      replace Ha := Lib.hid (Ha.out.below hb)
      replace Hb := Lib.hid (Hb.out.below hb)
      replace Hc := Lib.hid (Hc.out.below hb)
      replace Hu := Lib.hid (Hu.out.below hb)
      replace Hv := Lib.hid (Hv.out.below hb)
      replace HT := Lib.hid (HT.out.below hb HT.out.size)
      clear hb
      have Fx : Hid (Fine (SU (SI (a) (b)) (c))) := Fv.out.SU Fc.out
      go_wp2_with fail
      refine (union_f Ha.out Hc.out Fa.out Fc.out).mono ?_
      rintro e w28 ⟨vy, rfl, hy, hb⟩
      have Hy := Lib.hid hy
      clear hy
      replace HB := Lib.hid (HB.out.trans (hb.mono HB.out.size))
      replace Ha := Lib.hid (Ha.out.below hb)
      replace Hb := Lib.hid (Hb.out.below hb)
      replace Hc := Lib.hid (Hc.out.below hb)
      replace Hu := Lib.hid (Hu.out.below hb)
      replace Hv := Lib.hid (Hv.out.below hb)
      replace Hx := Lib.hid (Hx.out.below hb)
      replace HT := Lib.hid (HT.out.below hb HT.out.size)
      clear hb
      have Fy : Hid (Fine (SU (a) (c))) := Fa.out.SU Fc.out
      go_wp2_with fail
      refine (union_f Hb.out Hc.out Fb.out Fc.out).mono ?_
      rintro e w29 ⟨vz, rfl, hz, hb⟩
      have Hz := Lib.hid hz
      clear hz
      replace HB := Lib.hid (HB.out.trans (hb.mono HB.out.size))
      replace Ha := Lib.hid (Ha.out.below hb)
      replace Hb := Lib.hid (Hb.out.below hb)
      replace Hc := Lib.hid (Hc.out.below hb)
      replace Hu := Lib.hid (Hu.out.below hb)
      replace Hv := Lib.hid (Hv.out.below hb)
      replace Hx := Lib.hid (Hx.out.below hb)
      replace Hy := Lib.hid (Hy.out.below hb)
      replace HT := Lib.hid (HT.out.below hb HT.out.size)
      clear hb
      have Fz : Hid (Fine (SU (b) (c))) := Fb.out.SU Fc.out
      go_wp2_with fail
      refine (inter_f Hy.out Hz.out Fy.out Fz.out).mono ?_
      rintro e w30 ⟨vt, rfl, ht, hb⟩
      have Ht := Lib.hid ht
      clear ht
      replace HB := Lib.hid (HB.out.trans (hb.mono HB.out.size))
      replace Ha := Lib.hid (Ha.out.below hb)
      replace Hb := Lib.hid (Hb.out.below hb)
      replace Hc := Lib.hid (Hc.out.below hb)
      replace Hu := Lib.hid (Hu.out.below hb)
      replace Hv := Lib.hid (Hv.out.below hb)
      replace Hx := Lib.hid (Hx.out.below hb)
      replace Hy := Lib.hid (Hy.out.below hb)
      replace Hz := Lib.hid (Hz.out.below hb)
      replace HT := Lib.hid (HT.out.below hb HT.out.size)
      clear hb
      have Ft : Hid (Fine (SI (SU (a) (c)) (SU (b) (c)))) := Fy.out.SI Fz.out
      go_wp2_with fail
      refine (equal_f Hx.out Ht.out Fx.out Ft.out true (decide_eq_true (f_dist2 a b c))).mono ?_
      rintro e w31 ⟨rfl, hb⟩
      replace HB := Lib.hid (HB.out.trans (hb.mono HB.out.size))
      replace Ha := Lib.hid (Ha.out.below hb)
      replace Hb := Lib.hid (Hb.out.below hb)
      replace Hc := Lib.hid (Hc.out.below hb)
      replace Hu := Lib.hid (Hu.out.below hb)
      replace Hv := Lib.hid (Hv.out.below hb)
      replace Hx := Lib.hid (Hx.out.below hb)
      replace Hy := Lib.hid (Hy.out.below hb)
      replace Hz := Lib.hid (Hz.out.below hb)
      replace Ht := Lib.hid (Ht.out.below hb)
      replace HT := Lib.hid (HT.out.below hb HT.out.size)
      clear hb
      clear Hx Fx Hy Fy Hz Fz Ht Ft
      go_wp2_with fail
      refine (minus_f Ha.out Hb.out Fa.out Fb.out).mono ?_
      rintro e w32 ⟨vd, rfl, hd, hb⟩
      have Hd := Lib.hid hd
      clear hd
      replace HB := Lib.hid (HB.out.trans (hb.mono HB.out.size))
      replace Ha := Lib.hid (Ha.out.below hb)
      replace Hb := Lib.hid (Hb.out.below hb)
      replace Hc := Lib.hid (Hc.out.below hb)
      replace Hu := Lib.hid (Hu.out.below hb)
      replace Hv := Lib.hid (Hv.out.below hb)
      replace HT := Lib.hid (HT.out.below hb HT.out.size)
      clear hb
      have Fd : Hid (Fine (SM (a) (b))) := Fa.out.SM Fb.out
      go_wp2_with fail
      refine (union_f Hv.out Hd.out Fv.out Fd.out).mono ?_
      rintro e w33 ⟨vx, rfl, hx, hb⟩
      have Hx := Lib.hid hx
      clear hx
      replace HB := Lib.hid (HB.out.trans (hb.mono HB.out.size))
      replace Ha := Lib.hid (Ha.out.below hb)
      replace Hb := Lib.hid (Hb.out.below hb)
      replace Hc := Lib.hid (Hc.out.below hb)
      replace Hu := Lib.hid (Hu.out.below hb)
      replace Hv := Lib.hid (Hv.out.below hb)
      replace Hd := Lib.hid (Hd.out.below hb)
      replace HT := Lib.hid (HT.out.below hb HT.out.size)
      clear hb
      have Fx : Hid (Fine (SU (SI (a) (b)) (SM (a) (b)))) := Fv.out.SU Fd.out
      go_wp2_with fail
      refine (equal_f Hx.out Ha.out Fx.out Fa.out true (decide_eq_true (f_parts a b))).mono ?_
      rintro e w34 ⟨rfl, hb⟩
      replace HB := Lib.hid (HB.out.trans (hb.mono HB.out.size))
      replace Ha := Lib.hid (Ha.out.below hb)
      replace Hb := Lib.hid (Hb.out.below hb)
      replace Hc := Lib.hid (Hc.out.below hb)
      replace Hu := Lib.hid (Hu.out.below hb)
      replace Hv := Lib.hid (Hv.out.below hb)
      replace Hd := Lib.hid (Hd.out.below hb)
      replace Hx := Lib.hid (Hx.out.below hb)
      replace HT := Lib.hid (HT.out.below hb HT.out.size)
      clear hb
      clear Hx Fx
      go_wp2_with fail
      refine (inter_f Hv.out Hd.out Fv.out Fd.out).mono ?_
      rintro e w35 ⟨vx, rfl, hx, hb⟩
      have Hx := Lib.hid hx
      clear hx
      replace HB := Lib.hid (HB.out.trans (hb.mono HB.out.size))
      replace Ha := Lib.hid (Ha.out.below hb)
      replace Hb := Lib.hid (Hb.out.below hb)
      replace Hc := Lib.hid (Hc.out.below hb)
      replace Hu := Lib.hid (Hu.out.below hb)
      replace Hv := Lib.hid (Hv.out.below hb)
      replace Hd := Lib.hid (Hd.out.below hb)
      replace HT := Lib.hid (HT.out.below hb HT.out.size)
      clear hb
      have Fx : Hid (Fine (SI (SI (a) (b)) (SM (a) (b)))) := Fv.out.SI Fd.out
      go_wp2_with fail
      refine (len_f Hx.out Fx.out 0 (f_apart1 Fa.out Fb.out)).mono ?_
      rintro e w36 ⟨rfl, rfl⟩
      clear Hx Fx
      go_wp2_with fail
      refine (inter_f Hd.out Hb.out Fd.out Fb.out).mono ?_
      rintro e w37 ⟨vx, rfl, hx, hb⟩
      have Hx := Lib.hid hx
      clear hx
      replace HB := Lib.hid (HB.out.trans (hb.mono HB.out.size))
      replace Ha := Lib.hid (Ha.out.below hb)
      replace Hb := Lib.hid (Hb.out.below hb)
      replace Hc := Lib.hid (Hc.out.below hb)
      replace Hu := Lib.hid (Hu.out.below hb)
      replace Hv := Lib.hid (Hv.out.below hb)
      replace Hd := Lib.hid (Hd.out.below hb)
      replace HT := Lib.hid (HT.out.below hb HT.out.size)
      clear hb
      have Fx : Hid (Fine (SI (SM (a) (b)) (b))) := Fd.out.SI Fb.out
      go_wp2_with fail
      refine (len_f Hx.out Fx.out 0 (f_apart2 Fa.out Fb.out)).mono ?_
      rintro e w38 ⟨rfl, rfl⟩
      clear Hx Fx
      go_wp2
      go_ret
      exact ⟨rfl, HB.out⟩
    · have dab := decide_eq_true hab
      have dcc : decide (c.length ≤ 70 ∧ 0 ≤ 70) = false := decide_eq_false fun h => hcc h.1
      clear hab hcc
      go_enter Tryd.func6, Tryd.ntmps6
      go_wp2_with fail
      refine (awake_any _ HT.out).mono ?_
      rintro e w1 ⟨rfl, hb⟩
      replace HB := Lib.hid (HB.out.trans (hb.mono HB.out.size))
      replace Ha := Lib.hid (Ha.out.below hb)
      replace Hb := Lib.hid (Hb.out.below hb)
      replace Hc := Lib.hid (Hc.out.below hb)
      replace HT := Lib.hid (HT.out.below hb HT.out.size)
      clear hb
      go_wp2_with fail
      refine (few_any _ _ _ _ _ _ _).mono ?_
      rintro e w2 ⟨rfl, rfl⟩
      rw [dab]
      go_wp2_with fail
      refine (few_any _ _ _ _ _ _ _).mono ?_
      rintro e w3 ⟨rfl, rfl⟩
      rw [dcc]
      go_wp2
      go_ret
      exact ⟨rfl, HB.out⟩
  · have dab := decide_eq_false hab
    clear hab
    go_enter Tryd.func6, Tryd.ntmps6
    go_wp2_with fail
    refine (awake_any _ HT.out).mono ?_
    rintro e w1 ⟨rfl, hb⟩
    replace HB := Lib.hid (HB.out.trans (hb.mono HB.out.size))
    replace Ha := Lib.hid (Ha.out.below hb)
    replace Hb := Lib.hid (Hb.out.below hb)
    replace Hc := Lib.hid (Hc.out.below hb)
    replace HT := Lib.hid (HT.out.below hb HT.out.size)
    clear hb
    go_wp2_with fail
    refine (few_any _ _ _ _ _ _ _).mono ?_
    rintro e w2 ⟨rfl, rfl⟩
    rw [dab]
    go_wp2
    go_ret
    exact ⟨rfl, HB.out⟩
end Go.Proofs.YtaedijblgogmmaaDoor
