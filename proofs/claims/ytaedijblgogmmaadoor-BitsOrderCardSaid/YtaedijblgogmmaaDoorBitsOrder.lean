/- BitsOrder: for every input the law returns true. -/
import Derived.Test.YtaedijblgogmmaaDoorBitsAlg
import Derived.Test.YtaedijblgogmmaaDoorBitsCmp
namespace Go.Proofs.YtaedijblgogmmaaDoor
open Go.RowKit

theorem w64_id (n : Int) (h0 : -9223372036854775808 ≤ n) (h1 : n ≤ 9223372036854775807) : wrap64 n = n := by unfold wrap64; omega
theorem nil_le (l : List Nat) : lexc (els []) l ≤ 0 := by
  have e : els [] = [] := by
    have := (els_nil [] (by intro x hx; cases hx)).2 (fun i => by simp [wat])
    exact List.length_eq_zero_iff.1 this
  rw [e]
  cases l <;> simp [lexc]
theorem compare_f {va vb : Value} {a b : List Nat} {w : World} (ha : Sl uv w va a) (hb : Sl uv w vb b) (fa : Fine a) (fb : Fine b) (hT : Tab w) (X : Int) (hX : lexc (els a) (els b) = X) : Calls Tryd.prog 25 #[va, vb] w fun e w' => e = .returned (.int .i64 X) ∧ Below w.heap.size w w' := hX ▸ compare_any va vb a b w ha hb fa.2 fb.2 fa.1 fb.1 hT
set_option maxRecDepth 100000 in
set_option maxHeartbeats 4000000 in
theorem bitsorder_walk (Aa : Option Addr) (ca : Nat) (a : List Nat) (Ab : Option Addr) (cb : Nat) (b : List Nat) (Ac : Option Addr) (cc : Nat) (c : List Nat) (w : World) (hT : Tab w) (ha : Sl uv w (.slice Aa a.length ca) a) (wa : Wds a) (la : a.length ≤ 17592186044000) (hb : Sl uv w (.slice Ab b.length cb) b) (wb : Wds b) (lb : b.length ≤ 17592186044000) (hc : Sl uv w (.slice Ac c.length cc) c) (wc : Wds c) (lc : c.length ≤ 17592186044000) :
    Calls Tryd.prog 9 #[.slice Aa a.length ca, .slice Ab b.length cb, .slice Ac c.length cc] w (Ok w) := by
  have fa : Fine a := ⟨wa, by unfold Room2; omega⟩
  have Ha := Lib.hid ha; have Fa := Lib.hid fa
  have fb : Fine b := ⟨wb, by unfold Room2; omega⟩
  have Hb := Lib.hid hb; have Fb := Lib.hid fb
  have fc : Fine c := ⟨wc, by unfold Room2; omega⟩
  have Hc := Lib.hid hc; have Fc := Lib.hid fc
  have HT := Lib.hid hT
  have HB := Lib.hid (Below.refl w.heap.size w)
  clear hT ha wa la fa hb wb lb fb hc wc lc fc
  by_cases hab : a.length ≤ 70 ∧ b.length ≤ 70
  · by_cases hcc : c.length ≤ 70
    · have dab := decide_eq_true hab
      have dcc := decide_eq_true (show c.length ≤ 70 ∧ 0 ≤ 70 from ⟨hcc, by decide⟩)
      clear hab hcc
      obtain ⟨X, hX⟩ : ∃ X, lexc (els a) (els b) = X := ⟨_, rfl⟩
      obtain ⟨Y, hY⟩ : ∃ Y, lexc (els b) (els c) = Y := ⟨_, rfl⟩
      obtain ⟨Z, hZ⟩ : ∃ Z, lexc (els a) (els c) = Z := ⟨_, rfl⟩
      obtain ⟨V, hV⟩ : ∃ V, lexc (els b) (els a) = V := ⟨_, rfl⟩
      obtain ⟨N, hN⟩ : ∃ N, lexc (els []) (els a) = N := ⟨_, rfl⟩
      have q1 := lexc_range (els a) (els b)
      have q2 := lexc_anti (els a) (els b)
      have q3 := lexc_zero (els a) (els b)
      have q4 := lexc_le (els a) (els b) (els c)
      have q5 := nil_le (els a)
      rw [els_iff Fa.out.1 Fb.out.1] at q3
      rw [hX] at q1 q2 q3 q4
      rw [hY, hZ] at q4
      rw [hV] at q2
      rw [hN] at q5
      obtain ⟨x1, x2⟩ := q1
      have EX := Lib.hid hX; have EY := Lib.hid hY; have EZ := Lib.hid hZ; have EV := Lib.hid hV; have EN := Lib.hid hN; have Q4 := Lib.hid q4
      have t0 : decide (used a = used b) = (X == 0) := by rw [Bool.eq_iff_iff, decide_eq_true_iff, beq_iff_eq, q3]
      have T0 := Lib.hid t0
      have n1 : wrap64 (-V) = X := by rw [q2, Int.neg_neg]; exact w64_id X (by omega) (by omega)
      obtain ⟨r, hr⟩ : ∃ r, (X == 0) = r := ⟨_, rfl⟩
      rw [hr] at T0
      clear hX hY hZ hV hN q2 q3 q4 t0
      by_cases hx1 : X < 0
      · by_cases hy1 : Y < 0
        · have hz : Z < 0 := (Q4.out (by omega) (by omega)).2 (.inl hx1)
          go_enter Tryd.func9, Tryd.ntmps9
          go_wp2_with fail
          refine (awake_any _ HT.out).mono ?_
          rintro e w1 ⟨rfl, hb⟩
          replace HB := Lib.hid (HB.out.trans (hb.mono HB.out.size))
          replace Ha := Lib.hid (Ha.out.below hb)
          replace Hb := Lib.hid (Hb.out.below hb)
          replace Hc := Lib.hid (Hc.out.below hb)
          replace HT := Lib.hid (HT.out.below hb HT.out.size)
          clear hb
          go_wp2_with fail
          refine (few_any _ _ _ _ _ _ _).mono ?_
          rintro e w2 ⟨rfl, rfl⟩
          rw [dab]
          go_wp2_with fail
          refine (few_any _ _ _ _ _ _ _).mono ?_
          rintro e w3 ⟨rfl, rfl⟩
          rw [dcc]
          go_wp2_with fail
          refine (compare_f Ha.out Hb.out Fa.out Fb.out HT.out X EX.out).mono ?_
          rintro e w4 ⟨rfl, hb⟩
          replace HB := Lib.hid (HB.out.trans (hb.mono HB.out.size))
          replace Ha := Lib.hid (Ha.out.below hb)
          replace Hb := Lib.hid (Hb.out.below hb)
          replace Hc := Lib.hid (Hc.out.below hb)
          replace HT := Lib.hid (HT.out.below hb HT.out.size)
          clear hb
          go_wp2_with fail
          refine (compare_f Hb.out Hc.out Fb.out Fc.out HT.out Y EY.out).mono ?_
          rintro e w5 ⟨rfl, hb⟩
          replace HB := Lib.hid (HB.out.trans (hb.mono HB.out.size))
          replace Ha := Lib.hid (Ha.out.below hb)
          replace Hb := Lib.hid (Hb.out.below hb)
          replace Hc := Lib.hid (Hc.out.below hb)
          replace HT := Lib.hid (HT.out.below hb HT.out.size)
          clear hb
          go_wp2_with fail
          refine (compare_f Ha.out Hc.out Fa.out Fc.out HT.out Z EZ.out).mono ?_
          rintro e w6 ⟨rfl, hb⟩
          replace HB := Lib.hid (HB.out.trans (hb.mono HB.out.size))
          replace Ha := Lib.hid (Ha.out.below hb)
          replace Hb := Lib.hid (Hb.out.below hb)
          replace Hc := Lib.hid (Hc.out.below hb)
          replace HT := Lib.hid (HT.out.below hb HT.out.size)
          clear hb
          go_wp2_with fail
          refine (compare_f Hb.out Ha.out Fb.out Fa.out HT.out V EV.out).mono ?_
          rintro e w7 ⟨rfl, hb⟩
          replace HB := Lib.hid (HB.out.trans (hb.mono HB.out.size))
          replace Ha := Lib.hid (Ha.out.below hb)
          replace Hb := Lib.hid (Hb.out.below hb)
          replace Hc := Lib.hid (Hc.out.below hb)
          replace HT := Lib.hid (HT.out.below hb HT.out.size)
          clear hb
          go_wp2_with fail
          refine (equal_f Ha.out Hb.out Fa.out Fb.out r (T0.out)).mono ?_
          rintro e w8 ⟨rfl, hb⟩
          replace HB := Lib.hid (HB.out.trans (hb.mono HB.out.size))
          replace Ha := Lib.hid (Ha.out.below hb)
          replace Hb := Lib.hid (Hb.out.below hb)
          replace Hc := Lib.hid (Hc.out.below hb)
          replace HT := Lib.hid (HT.out.below hb HT.out.size)
          clear hb
          go_wp2_with fail
          refine (compare_f (va := .slice none 0 0) Sl.nil Ha.out Fine.nil Fa.out HT.out N EN.out).mono ?_
          rintro e w9 ⟨rfl, hb⟩
          replace HB := Lib.hid (HB.out.trans (hb.mono HB.out.size))
          replace Ha := Lib.hid (Ha.out.below hb)
          replace Hb := Lib.hid (Hb.out.below hb)
          replace Hc := Lib.hid (Hc.out.below hb)
          replace HT := Lib.hid (HT.out.below hb HT.out.size)
          clear hb
          go_wp2
          go_ret
          exact ⟨rfl, HB.out⟩
        · by_cases hy2 : Y ≤ 0
          · have hz : Z ≤ 0 := (Q4.out (by omega) (by omega)).1
            go_enter Tryd.func9, Tryd.ntmps9
            go_wp2_with fail
            refine (awake_any _ HT.out).mono ?_
            rintro e w1 ⟨rfl, hb⟩
            replace HB := Lib.hid (HB.out.trans (hb.mono HB.out.size))
            replace Ha := Lib.hid (Ha.out.below hb)
            replace Hb := Lib.hid (Hb.out.below hb)
            replace Hc := Lib.hid (Hc.out.below hb)
            replace HT := Lib.hid (HT.out.below hb HT.out.size)
            clear hb
            go_wp2_with fail
            refine (few_any _ _ _ _ _ _ _).mono ?_
            rintro e w2 ⟨rfl, rfl⟩
            rw [dab]
            go_wp2_with fail
            refine (few_any _ _ _ _ _ _ _).mono ?_
            rintro e w3 ⟨rfl, rfl⟩
            rw [dcc]
            go_wp2_with fail
            refine (compare_f Ha.out Hb.out Fa.out Fb.out HT.out X EX.out).mono ?_
            rintro e w4 ⟨rfl, hb⟩
            replace HB := Lib.hid (HB.out.trans (hb.mono HB.out.size))
            replace Ha := Lib.hid (Ha.out.below hb)
            replace Hb := Lib.hid (Hb.out.below hb)
            replace Hc := Lib.hid (Hc.out.below hb)
            replace HT := Lib.hid (HT.out.below hb HT.out.size)
            clear hb
            go_wp2_with fail
            refine (compare_f Hb.out Hc.out Fb.out Fc.out HT.out Y EY.out).mono ?_
            rintro e w5 ⟨rfl, hb⟩
            replace HB := Lib.hid (HB.out.trans (hb.mono HB.out.size))
            replace Ha := Lib.hid (Ha.out.below hb)
            replace Hb := Lib.hid (Hb.out.below hb)
            replace Hc := Lib.hid (Hc.out.below hb)
            replace HT := Lib.hid (HT.out.below hb HT.out.size)
            clear hb
            go_wp2_with fail
            refine (compare_f Ha.out Hc.out Fa.out Fc.out HT.out Z EZ.out).mono ?_
            rintro e w6 ⟨rfl, hb⟩
            replace HB := Lib.hid (HB.out.trans (hb.mono HB.out.size))
            replace Ha := Lib.hid (Ha.out.below hb)
            replace Hb := Lib.hid (Hb.out.below hb)
            replace Hc := Lib.hid (Hc.out.below hb)
            replace HT := Lib.hid (HT.out.below hb HT.out.size)
            clear hb
            go_wp2_with fail
            refine (compare_f Hb.out Ha.out Fb.out Fa.out HT.out V EV.out).mono ?_
            rintro e w7 ⟨rfl, hb⟩
            replace HB := Lib.hid (HB.out.trans (hb.mono HB.out.size))
            replace Ha := Lib.hid (Ha.out.below hb)
            replace Hb := Lib.hid (Hb.out.below hb)
            replace Hc := Lib.hid (Hc.out.below hb)
            replace HT := Lib.hid (HT.out.below hb HT.out.size)
            clear hb
            go_wp2_with fail
            refine (equal_f Ha.out Hb.out Fa.out Fb.out r (T0.out)).mono ?_
            rintro e w8 ⟨rfl, hb⟩
            replace HB := Lib.hid (HB.out.trans (hb.mono HB.out.size))
            replace Ha := Lib.hid (Ha.out.below hb)
            replace Hb := Lib.hid (Hb.out.below hb)
            replace Hc := Lib.hid (Hc.out.below hb)
            replace HT := Lib.hid (HT.out.below hb HT.out.size)
            clear hb
            go_wp2_with fail
            refine (compare_f (va := .slice none 0 0) Sl.nil Ha.out Fine.nil Fa.out HT.out N EN.out).mono ?_
            rintro e w9 ⟨rfl, hb⟩
            replace HB := Lib.hid (HB.out.trans (hb.mono HB.out.size))
            replace Ha := Lib.hid (Ha.out.below hb)
            replace Hb := Lib.hid (Hb.out.below hb)
            replace Hc := Lib.hid (Hc.out.below hb)
            replace HT := Lib.hid (HT.out.below hb HT.out.size)
            clear hb
            go_wp2
            go_ret
            exact ⟨rfl, HB.out⟩
          · have hy3 : ¬ Y < 0 := by omega
            go_enter Tryd.func9, Tryd.ntmps9
            go_wp2_with fail
            refine (awake_any _ HT.out).mono ?_
            rintro e w1 ⟨rfl, hb⟩
            replace HB := Lib.hid (HB.out.trans (hb.mono HB.out.size))
            replace Ha := Lib.hid (Ha.out.below hb)
            replace Hb := Lib.hid (Hb.out.below hb)
            replace Hc := Lib.hid (Hc.out.below hb)
            replace HT := Lib.hid (HT.out.below hb HT.out.size)
            clear hb
            go_wp2_with fail
            refine (few_any _ _ _ _ _ _ _).mono ?_
            rintro e w2 ⟨rfl, rfl⟩
            rw [dab]
            go_wp2_with fail
            refine (few_any _ _ _ _ _ _ _).mono ?_
            rintro e w3 ⟨rfl, rfl⟩
            rw [dcc]
            go_wp2_with fail
            refine (compare_f Ha.out Hb.out Fa.out Fb.out HT.out X EX.out).mono ?_
            rintro e w4 ⟨rfl, hb⟩
            replace HB := Lib.hid (HB.out.trans (hb.mono HB.out.size))
            replace Ha := Lib.hid (Ha.out.below hb)
            replace Hb := Lib.hid (Hb.out.below hb)
            replace Hc := Lib.hid (Hc.out.below hb)
            replace HT := Lib.hid (HT.out.below hb HT.out.size)
            clear hb
            go_wp2_with fail
            refine (compare_f Hb.out Hc.out Fb.out Fc.out HT.out Y EY.out).mono ?_
            rintro e w5 ⟨rfl, hb⟩
            replace HB := Lib.hid (HB.out.trans (hb.mono HB.out.size))
            replace Ha := Lib.hid (Ha.out.below hb)
            replace Hb := Lib.hid (Hb.out.below hb)
            replace Hc := Lib.hid (Hc.out.below hb)
            replace HT := Lib.hid (HT.out.below hb HT.out.size)
            clear hb
            go_wp2_with fail
            refine (compare_f Ha.out Hc.out Fa.out Fc.out HT.out Z EZ.out).mono ?_
            rintro e w6 ⟨rfl, hb⟩
            replace HB := Lib.hid (HB.out.trans (hb.mono HB.out.size))
            replace Ha := Lib.hid (Ha.out.below hb)
            replace Hb := Lib.hid (Hb.out.below hb)
            replace Hc := Lib.hid (Hc.out.below hb)
            replace HT := Lib.hid (HT.out.below hb HT.out.size)
            clear hb
            go_wp2_with fail
            refine (compare_f Hb.out Ha.out Fb.out Fa.out HT.out V EV.out).mono ?_
            rintro e w7 ⟨rfl, hb⟩
            replace HB := Lib.hid (HB.out.trans (hb.mono HB.out.size))
            replace Ha := Lib.hid (Ha.out.below hb)
            replace Hb := Lib.hid (Hb.out.below hb)
            replace Hc := Lib.hid (Hc.out.below hb)
            replace HT := Lib.hid (HT.out.below hb HT.out.size)
            clear hb
            go_wp2_with fail
            refine (equal_f Ha.out Hb.out Fa.out Fb.out r (T0.out)).mono ?_
            rintro e w8 ⟨rfl, hb⟩
            replace HB := Lib.hid (HB.out.trans (hb.mono HB.out.size))
            replace Ha := Lib.hid (Ha.out.below hb)
            replace Hb := Lib.hid (Hb.out.below hb)
            replace Hc := Lib.hid (Hc.out.below hb)
            replace HT := Lib.hid (HT.out.below hb HT.out.size)
            clear hb
            go_wp2_with fail
            refine (compare_f (va := .slice none 0 0) Sl.nil Ha.out Fine.nil Fa.out HT.out N EN.out).mono ?_
            rintro e w9 ⟨rfl, hb⟩
            replace HB := Lib.hid (HB.out.trans (hb.mono HB.out.size))
            replace Ha := Lib.hid (Ha.out.below hb)
            replace Hb := Lib.hid (Hb.out.below hb)
            replace Hc := Lib.hid (Hc.out.below hb)
            replace HT := Lib.hid (HT.out.below hb HT.out.size)
            clear hb
            go_wp2
            go_ret
            exact ⟨rfl, HB.out⟩
      · by_cases hx2 : X ≤ 0
        · by_cases hy2 : Y ≤ 0
          · have hz : Z ≤ 0 := (Q4.out (by omega) (by omega)).1
            go_enter Tryd.func9, Tryd.ntmps9
            go_wp2_with fail
            refine (awake_any _ HT.out).mono ?_
            rintro e w1 ⟨rfl, hb⟩
            replace HB := Lib.hid (HB.out.trans (hb.mono HB.out.size))
            replace Ha := Lib.hid (Ha.out.below hb)
            replace Hb := Lib.hid (Hb.out.below hb)
            replace Hc := Lib.hid (Hc.out.below hb)
            replace HT := Lib.hid (HT.out.below hb HT.out.size)
            clear hb
            go_wp2_with fail
            refine (few_any _ _ _ _ _ _ _).mono ?_
            rintro e w2 ⟨rfl, rfl⟩
            rw [dab]
            go_wp2_with fail
            refine (few_any _ _ _ _ _ _ _).mono ?_
            rintro e w3 ⟨rfl, rfl⟩
            rw [dcc]
            go_wp2_with fail
            refine (compare_f Ha.out Hb.out Fa.out Fb.out HT.out X EX.out).mono ?_
            rintro e w4 ⟨rfl, hb⟩
            replace HB := Lib.hid (HB.out.trans (hb.mono HB.out.size))
            replace Ha := Lib.hid (Ha.out.below hb)
            replace Hb := Lib.hid (Hb.out.below hb)
            replace Hc := Lib.hid (Hc.out.below hb)
            replace HT := Lib.hid (HT.out.below hb HT.out.size)
            clear hb
            go_wp2_with fail
            refine (compare_f Hb.out Hc.out Fb.out Fc.out HT.out Y EY.out).mono ?_
            rintro e w5 ⟨rfl, hb⟩
            replace HB := Lib.hid (HB.out.trans (hb.mono HB.out.size))
            replace Ha := Lib.hid (Ha.out.below hb)
            replace Hb := Lib.hid (Hb.out.below hb)
            replace Hc := Lib.hid (Hc.out.below hb)
            replace HT := Lib.hid (HT.out.below hb HT.out.size)
            clear hb
            go_wp2_with fail
            refine (compare_f Ha.out Hc.out Fa.out Fc.out HT.out Z EZ.out).mono ?_
            rintro e w6 ⟨rfl, hb⟩
            replace HB := Lib.hid (HB.out.trans (hb.mono HB.out.size))
            replace Ha := Lib.hid (Ha.out.below hb)
            replace Hb := Lib.hid (Hb.out.below hb)
            replace Hc := Lib.hid (Hc.out.below hb)
            replace HT := Lib.hid (HT.out.below hb HT.out.size)
            clear hb
            go_wp2_with fail
            refine (compare_f Hb.out Ha.out Fb.out Fa.out HT.out V EV.out).mono ?_
            rintro e w7 ⟨rfl, hb⟩
            replace HB := Lib.hid (HB.out.trans (hb.mono HB.out.size))
            replace Ha := Lib.hid (Ha.out.below hb)
            replace Hb := Lib.hid (Hb.out.below hb)
            replace Hc := Lib.hid (Hc.out.below hb)
            replace HT := Lib.hid (HT.out.below hb HT.out.size)
            clear hb
            go_wp2_with fail
            refine (equal_f Ha.out Hb.out Fa.out Fb.out r (T0.out)).mono ?_
            rintro e w8 ⟨rfl, hb⟩
            replace HB := Lib.hid (HB.out.trans (hb.mono HB.out.size))
            replace Ha := Lib.hid (Ha.out.below hb)
            replace Hb := Lib.hid (Hb.out.below hb)
            replace Hc := Lib.hid (Hc.out.below hb)
            replace HT := Lib.hid (HT.out.below hb HT.out.size)
            clear hb
            go_wp2_with fail
            refine (compare_f (va := .slice none 0 0) Sl.nil Ha.out Fine.nil Fa.out HT.out N EN.out).mono ?_
            rintro e w9 ⟨rfl, hb⟩
            replace HB := Lib.hid (HB.out.trans (hb.mono HB.out.size))
            replace Ha := Lib.hid (Ha.out.below hb)
            replace Hb := Lib.hid (Hb.out.below hb)
            replace Hc := Lib.hid (Hc.out.below hb)
            replace HT := Lib.hid (HT.out.below hb HT.out.size)
            clear hb
            go_wp2
            go_ret
            exact ⟨rfl, HB.out⟩
          · have hy3 : ¬ Y < 0 := by omega
            go_enter Tryd.func9, Tryd.ntmps9
            go_wp2_with fail
            refine (awake_any _ HT.out).mono ?_
            rintro e w1 ⟨rfl, hb⟩
            replace HB := Lib.hid (HB.out.trans (hb.mono HB.out.size))
            replace Ha := Lib.hid (Ha.out.below hb)
            replace Hb := Lib.hid (Hb.out.below hb)
            replace Hc := Lib.hid (Hc.out.below hb)
            replace HT := Lib.hid (HT.out.below hb HT.out.size)
            clear hb
            go_wp2_with fail
            refine (few_any _ _ _ _ _ _ _).mono ?_
            rintro e w2 ⟨rfl, rfl⟩
            rw [dab]
            go_wp2_with fail
            refine (few_any _ _ _ _ _ _ _).mono ?_
            rintro e w3 ⟨rfl, rfl⟩
            rw [dcc]
            go_wp2_with fail
            refine (compare_f Ha.out Hb.out Fa.out Fb.out HT.out X EX.out).mono ?_
            rintro e w4 ⟨rfl, hb⟩
            replace HB := Lib.hid (HB.out.trans (hb.mono HB.out.size))
            replace Ha := Lib.hid (Ha.out.below hb)
            replace Hb := Lib.hid (Hb.out.below hb)
            replace Hc := Lib.hid (Hc.out.below hb)
            replace HT := Lib.hid (HT.out.below hb HT.out.size)
            clear hb
            go_wp2_with fail
            refine (compare_f Hb.out Hc.out Fb.out Fc.out HT.out Y EY.out).mono ?_
            rintro e w5 ⟨rfl, hb⟩
            replace HB := Lib.hid (HB.out.trans (hb.mono HB.out.size))
            replace Ha := Lib.hid (Ha.out.below hb)
            replace Hb := Lib.hid (Hb.out.below hb)
            replace Hc := Lib.hid (Hc.out.below hb)
            replace HT := Lib.hid (HT.out.below hb HT.out.size)
            clear hb
            go_wp2_with fail
            refine (compare_f Ha.out Hc.out Fa.out Fc.out HT.out Z EZ.out).mono ?_
            rintro e w6 ⟨rfl, hb⟩
            replace HB := Lib.hid (HB.out.trans (hb.mono HB.out.size))
            replace Ha := Lib.hid (Ha.out.below hb)
            replace Hb := Lib.hid (Hb.out.below hb)
            replace Hc := Lib.hid (Hc.out.below hb)
            replace HT := Lib.hid (HT.out.below hb HT.out.size)
            clear hb
            go_wp2_with fail
            refine (compare_f Hb.out Ha.out Fb.out Fa.out HT.out V EV.out).mono ?_
            rintro e w7 ⟨rfl, hb⟩
            replace HB := Lib.hid (HB.out.trans (hb.mono HB.out.size))
            replace Ha := Lib.hid (Ha.out.below hb)
            replace Hb := Lib.hid (Hb.out.below hb)
            replace Hc := Lib.hid (Hc.out.below hb)
            replace HT := Lib.hid (HT.out.below hb HT.out.size)
            clear hb
            go_wp2_with fail
            refine (equal_f Ha.out Hb.out Fa.out Fb.out r (T0.out)).mono ?_
            rintro e w8 ⟨rfl, hb⟩
            replace HB := Lib.hid (HB.out.trans (hb.mono HB.out.size))
            replace Ha := Lib.hid (Ha.out.below hb)
            replace Hb := Lib.hid (Hb.out.below hb)
            replace Hc := Lib.hid (Hc.out.below hb)
            replace HT := Lib.hid (HT.out.below hb HT.out.size)
            clear hb
            go_wp2_with fail
            refine (compare_f (va := .slice none 0 0) Sl.nil Ha.out Fine.nil Fa.out HT.out N EN.out).mono ?_
            rintro e w9 ⟨rfl, hb⟩
            replace HB := Lib.hid (HB.out.trans (hb.mono HB.out.size))
            replace Ha := Lib.hid (Ha.out.below hb)
            replace Hb := Lib.hid (Hb.out.below hb)
            replace Hc := Lib.hid (Hc.out.below hb)
            replace HT := Lib.hid (HT.out.below hb HT.out.size)
            clear hb
            go_wp2
            go_ret
            exact ⟨rfl, HB.out⟩
        · have hx3 : ¬ X < 0 := hx1
          go_enter Tryd.func9, Tryd.ntmps9
          go_wp2_with fail
          refine (awake_any _ HT.out).mono ?_
          rintro e w1 ⟨rfl, hb⟩
          replace HB := Lib.hid (HB.out.trans (hb.mono HB.out.size))
          replace Ha := Lib.hid (Ha.out.below hb)
          replace Hb := Lib.hid (Hb.out.below hb)
          replace Hc := Lib.hid (Hc.out.below hb)
          replace HT := Lib.hid (HT.out.below hb HT.out.size)
          clear hb
          go_wp2_with fail
          refine (few_any _ _ _ _ _ _ _).mono ?_
          rintro e w2 ⟨rfl, rfl⟩
          rw [dab]
          go_wp2_with fail
          refine (few_any _ _ _ _ _ _ _).mono ?_
          rintro e w3 ⟨rfl, rfl⟩
          rw [dcc]
          go_wp2_with fail
          refine (compare_f Ha.out Hb.out Fa.out Fb.out HT.out X EX.out).mono ?_
          rintro e w4 ⟨rfl, hb⟩
          replace HB := Lib.hid (HB.out.trans (hb.mono HB.out.size))
          replace Ha := Lib.hid (Ha.out.below hb)
          replace Hb := Lib.hid (Hb.out.below hb)
          replace Hc := Lib.hid (Hc.out.below hb)
          replace HT := Lib.hid (HT.out.below hb HT.out.size)
          clear hb
          go_wp2_with fail
          refine (compare_f Hb.out Hc.out Fb.out Fc.out HT.out Y EY.out).mono ?_
          rintro e w5 ⟨rfl, hb⟩
          replace HB := Lib.hid (HB.out.trans (hb.mono HB.out.size))
          replace Ha := Lib.hid (Ha.out.below hb)
          replace Hb := Lib.hid (Hb.out.below hb)
          replace Hc := Lib.hid (Hc.out.below hb)
          replace HT := Lib.hid (HT.out.below hb HT.out.size)
          clear hb
          go_wp2_with fail
          refine (compare_f Ha.out Hc.out Fa.out Fc.out HT.out Z EZ.out).mono ?_
          rintro e w6 ⟨rfl, hb⟩
          replace HB := Lib.hid (HB.out.trans (hb.mono HB.out.size))
          replace Ha := Lib.hid (Ha.out.below hb)
          replace Hb := Lib.hid (Hb.out.below hb)
          replace Hc := Lib.hid (Hc.out.below hb)
          replace HT := Lib.hid (HT.out.below hb HT.out.size)
          clear hb
          go_wp2_with fail
          refine (compare_f Hb.out Ha.out Fb.out Fa.out HT.out V EV.out).mono ?_
          rintro e w7 ⟨rfl, hb⟩
          replace HB := Lib.hid (HB.out.trans (hb.mono HB.out.size))
          replace Ha := Lib.hid (Ha.out.below hb)
          replace Hb := Lib.hid (Hb.out.below hb)
          replace Hc := Lib.hid (Hc.out.below hb)
          replace HT := Lib.hid (HT.out.below hb HT.out.size)
          clear hb
          go_wp2_with fail
          refine (equal_f Ha.out Hb.out Fa.out Fb.out r (T0.out)).mono ?_
          rintro e w8 ⟨rfl, hb⟩
          replace HB := Lib.hid (HB.out.trans (hb.mono HB.out.size))
          replace Ha := Lib.hid (Ha.out.below hb)
          replace Hb := Lib.hid (Hb.out.below hb)
          replace Hc := Lib.hid (Hc.out.below hb)
          replace HT := Lib.hid (HT.out.below hb HT.out.size)
          clear hb
          go_wp2_with fail
          refine (compare_f (va := .slice none 0 0) Sl.nil Ha.out Fine.nil Fa.out HT.out N EN.out).mono ?_
          rintro e w9 ⟨rfl, hb⟩
          replace HB := Lib.hid (HB.out.trans (hb.mono HB.out.size))
          replace Ha := Lib.hid (Ha.out.below hb)
          replace Hb := Lib.hid (Hb.out.below hb)
          replace Hc := Lib.hid (Hc.out.below hb)
          replace HT := Lib.hid (HT.out.below hb HT.out.size)
          clear hb
          go_wp2
          go_ret
          exact ⟨rfl, HB.out⟩
    · have dab := decide_eq_true hab
      have dcc : decide (c.length ≤ 70 ∧ 0 ≤ 70) = false := decide_eq_false fun h => hcc h.1
      clear hab hcc
      go_enter Tryd.func9, Tryd.ntmps9
      go_wp2_with fail
      refine (awake_any _ HT.out).mono ?_
      rintro e w1 ⟨rfl, hb⟩
      replace HB := Lib.hid (HB.out.trans (hb.mono HB.out.size))
      replace Ha := Lib.hid (Ha.out.below hb)
      replace Hb := Lib.hid (Hb.out.below hb)
      replace Hc := Lib.hid (Hc.out.below hb)
      replace HT := Lib.hid (HT.out.below hb HT.out.size)
      clear hb
      go_wp2_with fail
      refine (few_any _ _ _ _ _ _ _).mono ?_
      rintro e w2 ⟨rfl, rfl⟩
      rw [dab]
      go_wp2_with fail
      refine (few_any _ _ _ _ _ _ _).mono ?_
      rintro e w3 ⟨rfl, rfl⟩
      rw [dcc]
      go_wp2
      go_ret
      exact ⟨rfl, HB.out⟩
  · have dab := decide_eq_false hab
    clear hab
    go_enter Tryd.func9, Tryd.ntmps9
    go_wp2_with fail
    refine (awake_any _ HT.out).mono ?_
    rintro e w1 ⟨rfl, hb⟩
    replace HB := Lib.hid (HB.out.trans (hb.mono HB.out.size))
    replace Ha := Lib.hid (Ha.out.below hb)
    replace Hb := Lib.hid (Hb.out.below hb)
    replace Hc := Lib.hid (Hc.out.below hb)
    replace HT := Lib.hid (HT.out.below hb HT.out.size)
    clear hb
    go_wp2_with fail
    refine (few_any _ _ _ _ _ _ _).mono ?_
    rintro e w2 ⟨rfl, rfl⟩
    rw [dab]
    go_wp2
    go_ret
    exact ⟨rfl, HB.out⟩
end Go.Proofs.YtaedijblgogmmaaDoor
