/- BitsCounts: for every input the law returns true. -/
import Derived.Test.YtaedijblgogmmaaDoorBitsAlg
namespace Go.Proofs.YtaedijblgogmmaaDoor
open Go.RowKit

theorem w64_id (n : Int) (h0 : -9223372036854775808 ≤ n) (h1 : n ≤ 9223372036854775807) : wrap64 n = n := by unfold wrap64; omega
theorem cnt1 {mU mI ma mb : Nat} {S p : Int} (g : mU + mI = ma + mb) (q1 : ma ≤ 4096) (q2 : mb ≤ 4096) (hS : S = (ma : Int) + (mb : Int)) (hp : p = (ma : Int) - 1) : wrap64 ((mU : Int) + (mI : Int)) = S ∧ wrap64 ((ma : Int) + (mb : Int)) = S ∧ wrap64 ((ma : Int) - 1) = p := by
  refine ⟨(w64_id _ ?_ ?_).trans ?_, (w64_id _ ?_ ?_).trans ?_, (w64_id _ ?_ ?_).trans ?_⟩ <;> omega
theorem cnt2 {ma mw mo : Nat} {p : Int} (g2 : mw = ma + 1) (g3 : (mo : Int) = (ma : Int) - 1 + 1) (q1 : ma ≤ 4096) (hp : p = (ma : Int) - 1) : wrap64 ((ma : Int) + 1) = (mw : Int) ∧ wrap64 (p + 1) = (mo : Int) := by
  refine ⟨(w64_id _ ?_ ?_).trans ?_, (w64_id _ ?_ ?_).trans ?_⟩ <;> omega
theorem cnt3 {ma mw mo : Nat} {p : Int} (g2 : mw = ma + 0) (g3 : (mo : Int) = (ma : Int) - 1 + 0) (q1 : ma ≤ 4096) (hp : p = (ma : Int) - 1) : wrap64 (ma : Int) = (mw : Int) ∧ wrap64 p = (mo : Int) := by
  refine ⟨(w64_id _ ?_ ?_).trans ?_, (w64_id _ ?_ ?_).trans ?_⟩ <;> omega
set_option maxHeartbeats 4000000 in
theorem bitscounts_walk (Aa : Option Addr) (ca : Nat) (a : List Nat) (Ab : Option Addr) (cb : Nat) (b : List Nat) (n : Nat) (w : World) (hT : Tab w) (ha : Sl uv w (.slice Aa a.length ca) a) (wa : Wds a) (la : a.length ≤ 17592186044000) (hb : Sl uv w (.slice Ab b.length cb) b) (wb : Wds b) (lb : b.length ≤ 17592186044000) (hn : n < 65536) :
    Calls Tryd.prog 8 #[.slice Aa a.length ca, .slice Ab b.length cb, .int .u16 (n : Int)] w (Ok w) := by
  have fa : Fine a := ⟨wa, by unfold Room2; omega⟩
  have Ha := Lib.hid ha; have Fa := Lib.hid fa
  have fb : Fine b := ⟨wb, by unfold Room2; omega⟩
  have Hb := Lib.hid hb; have Fb := Lib.hid fb
  have HT := Lib.hid hT
  have HB := Lib.hid (Below.refl w.heap.size w)
  clear hT ha wa la fa hb wb lb fb
  by_cases hab : a.length ≤ 70 ∧ b.length ≤ 70
  · have dab := decide_eq_true hab
    clear hab
    obtain ⟨k, hk⟩ : ∃ k, k = n % 4096 := ⟨_, rfl⟩
    have hk2 : k < 4096 := by omega
    have hc : (n : Int) % 4096 = (k : Int) := by omega
    have g1 := f_count a b
    have g2 := f_with a k hk2
    have g3 := f_without a k hk2
    have g4 : hasI a k = has a k := by
      unfold hasI
      rw [decide_eq_true (show 0 ≤ (k : Int) ∧ (k : Int) < 4096 from ⟨by omega, by omega⟩)]
      rfl
    have q1 := els_len_le a
    have q2 := els_len_le b
    rw [← slen_els] at q1 q2
    obtain ⟨mU, e1⟩ : ∃ m, slen (SU a b) = m := ⟨_, rfl⟩
    obtain ⟨mI, e2⟩ : ∃ m, slen (SI a b) = m := ⟨_, rfl⟩
    obtain ⟨ma, e3⟩ : ∃ m, slen a = m := ⟨_, rfl⟩
    obtain ⟨mb, e4⟩ : ∃ m, slen b = m := ⟨_, rfl⟩
    obtain ⟨mw, e5⟩ : ∃ m, slen (withM a k) = m := ⟨_, rfl⟩
    obtain ⟨mo, e6⟩ : ∃ m, slen (withoutM a k) = m := ⟨_, rfl⟩
    rw [e1, e2, e3, e4] at g1
    rw [e5, e3] at g2
    rw [e6, e3] at g3
    rw [e3] at q1
    rw [e4] at q2
    obtain ⟨S, hS⟩ : ∃ S : Int, S = (ma : Int) + (mb : Int) := ⟨_, rfl⟩
    obtain ⟨p, hp⟩ : ∃ p : Int, p = (ma : Int) - 1 := ⟨_, rfl⟩
    obtain ⟨s1, s2, s3⟩ := cnt1 g1 q1 q2 hS hp
    have E1 := Lib.hid e1; have E2 := Lib.hid e2; have E3 := Lib.hid e3; have E4 := Lib.hid e4; have E5 := Lib.hid e5; have E6 := Lib.hid e6
    clear e1 e2 e3 e4 e5 e6
    have FW : Hid (Fine (withM a k)) := Fa.out.withM _
    have FO : Hid (Fine (withoutM a k)) := Fa.out.withoutM _
    have Hk := Lib.hid hk
    clear hk g1
    cases hh : has a k
    · rw [hh] at g2 g3 g4
      rw [if_neg (by decide)] at g2 g3
      have G4 := Lib.hid g4
      obtain ⟨s4, s5⟩ := cnt2 g2 g3 q1 hp
      clear g2 g3 g4 hh q1 q2 hS hp hk2
      go_enter Tryd.func8, Tryd.ntmps8
      go_wp2_with fail
      refine (awake_any _ HT.out).mono ?_
      rintro e w1 ⟨rfl, hb⟩
      replace HB := Lib.hid (HB.out.trans (hb.mono HB.out.size))
      replace Ha := Lib.hid (Ha.out.below hb)
      replace Hb := Lib.hid (Hb.out.below hb)
      replace HT := Lib.hid (HT.out.below hb HT.out.size)
      clear hb
      go_wp2_with fail
      refine (few_any _ _ _ _ _ _ _).mono ?_
      rintro e w2 ⟨rfl, rfl⟩
      rw [dab]
      go_wp2_with fail
      rw [hc]
      refine (has_any _ a _ _ Ha.out Fa.out.2 Fa.out.1).mono ?_
      rintro e w3 ⟨rfl, rfl⟩
      rw [G4.out]
      go_wp2_with fail
      refine (union_f Ha.out Hb.out Fa.out Fb.out).mono ?_
      rintro e w4 ⟨vx, rfl, hx, hb⟩
      have Hx := Lib.hid hx
      clear hx
      replace HB := Lib.hid (HB.out.trans (hb.mono HB.out.size))
      replace Ha := Lib.hid (Ha.out.below hb)
      replace Hb := Lib.hid (Hb.out.below hb)
      replace HT := Lib.hid (HT.out.below hb HT.out.size)
      clear hb
      have Fx : Hid (Fine (SU (a) (b))) := Fa.out.SU Fb.out
      go_wp2_with fail
      refine (len_f Hx.out Fx.out mU E1.out).mono ?_
      rintro e w5 ⟨rfl, rfl⟩
      clear Hx Fx
      go_wp2_with fail
      refine (inter_f Ha.out Hb.out Fa.out Fb.out).mono ?_
      rintro e w6 ⟨vx, rfl, hx, hb⟩
      have Hx := Lib.hid hx
      clear hx
      replace HB := Lib.hid (HB.out.trans (hb.mono HB.out.size))
      replace Ha := Lib.hid (Ha.out.below hb)
      replace Hb := Lib.hid (Hb.out.below hb)
      replace HT := Lib.hid (HT.out.below hb HT.out.size)
      clear hb
      have Fx : Hid (Fine (SI (a) (b))) := Fa.out.SI Fb.out
      go_wp2_with fail
      refine (len_f Hx.out Fx.out mI E2.out).mono ?_
      rintro e w7 ⟨rfl, rfl⟩
      clear Hx Fx
      go_wp2_with fail
      refine (len_f Ha.out Fa.out ma E3.out).mono ?_
      rintro e w8 ⟨rfl, rfl⟩
      go_wp2_with fail
      refine (len_f Hb.out Fb.out mb E4.out).mono ?_
      rintro e w9 ⟨rfl, rfl⟩
      go_wp2_with fail
      refine (with_f k Ha.out Fa.out).mono ?_
      rintro e w10 ⟨vx, rfl, hx, hb⟩
      have Hx := Lib.hid hx
      clear hx
      replace HB := Lib.hid (HB.out.trans (hb.mono HB.out.size))
      replace Ha := Lib.hid (Ha.out.below hb)
      replace Hb := Lib.hid (Hb.out.below hb)
      replace HT := Lib.hid (HT.out.below hb HT.out.size)
      clear hb
      have Fx : Hid (Fine (withM a k)) := FW
      go_wp2_with fail
      refine (len_f Hx.out Fx.out mw E5.out).mono ?_
      rintro e w11 ⟨rfl, rfl⟩
      go_wp2_with fail
      refine (len_f Ha.out Fa.out ma E3.out).mono ?_
      rintro e w12 ⟨rfl, rfl⟩
      clear Hx Fx
      go_wp2_with fail
      refine (without_f k Ha.out Fa.out).mono ?_
      rintro e w13 ⟨vx, rfl, hx, hb⟩
      have Hx := Lib.hid hx
      clear hx
      replace HB := Lib.hid (HB.out.trans (hb.mono HB.out.size))
      replace Ha := Lib.hid (Ha.out.below hb)
      replace Hb := Lib.hid (Hb.out.below hb)
      replace HT := Lib.hid (HT.out.below hb HT.out.size)
      clear hb
      have Fx : Hid (Fine (withoutM a k)) := FO
      go_wp2_with fail
      refine (len_f Hx.out Fx.out mo E6.out).mono ?_
      rintro e w14 ⟨rfl, rfl⟩
      go_wp2_with fail
      refine (len_f Ha.out Fa.out ma E3.out).mono ?_
      rintro e w15 ⟨rfl, rfl⟩
      clear Hx Fx
      go_wp2
      go_ret
      exact ⟨rfl, HB.out⟩
    · rw [hh] at g2 g3 g4
      rw [if_pos rfl] at g2 g3
      have G4 := Lib.hid g4
      obtain ⟨s4, s5⟩ := cnt3 g2 g3 q1 hp
      clear g2 g3 g4 hh q1 q2 hS hp hk2
      go_enter Tryd.func8, Tryd.ntmps8
      go_wp2_with fail
      refine (awake_any _ HT.out).mono ?_
      rintro e w1 ⟨rfl, hb⟩
      replace HB := Lib.hid (HB.out.trans (hb.mono HB.out.size))
      replace Ha := Lib.hid (Ha.out.below hb)
      replace Hb := Lib.hid (Hb.out.below hb)
      replace HT := Lib.hid (HT.out.below hb HT.out.size)
      clear hb
      go_wp2_with fail
      refine (few_any _ _ _ _ _ _ _).mono ?_
      rintro e w2 ⟨rfl, rfl⟩
      rw [dab]
      go_wp2_with fail
      rw [hc]
      refine (has_any _ a _ _ Ha.out Fa.out.2 Fa.out.1).mono ?_
      rintro e w3 ⟨rfl, rfl⟩
      rw [G4.out]
      go_wp2_with fail
      refine (union_f Ha.out Hb.out Fa.out Fb.out).mono ?_
      rintro e w4 ⟨vx, rfl, hx, hb⟩
      have Hx := Lib.hid hx
      clear hx
      replace HB := Lib.hid (HB.out.trans (hb.mono HB.out.size))
      replace Ha := Lib.hid (Ha.out.below hb)
      replace Hb := Lib.hid (Hb.out.below hb)
      replace HT := Lib.hid (HT.out.below hb HT.out.size)
      clear hb
      have Fx : Hid (Fine (SU (a) (b))) := Fa.out.SU Fb.out
      go_wp2_with fail
      refine (len_f Hx.out Fx.out mU E1.out).mono ?_
      rintro e w5 ⟨rfl, rfl⟩
      clear Hx Fx
      go_wp2_with fail
      refine (inter_f Ha.out Hb.out Fa.out Fb.out).mono ?_
      rintro e w6 ⟨vx, rfl, hx, hb⟩
      have Hx := Lib.hid hx
      clear hx
      replace HB := Lib.hid (HB.out.trans (hb.mono HB.out.size))
      replace Ha := Lib.hid (Ha.out.below hb)
      replace Hb := Lib.hid (Hb.out.below hb)
      replace HT := Lib.hid (HT.out.below hb HT.out.size)
      clear hb
      have Fx : Hid (Fine (SI (a) (b))) := Fa.out.SI Fb.out
      go_wp2_with fail
      refine (len_f Hx.out Fx.out mI E2.out).mono ?_
      rintro e w7 ⟨rfl, rfl⟩
      clear Hx Fx
      go_wp2_with fail
      refine (len_f Ha.out Fa.out ma E3.out).mono ?_
      rintro e w8 ⟨rfl, rfl⟩
      go_wp2_with fail
      refine (len_f Hb.out Fb.out mb E4.out).mono ?_
      rintro e w9 ⟨rfl, rfl⟩
      go_wp2_with fail
      refine (with_f k Ha.out Fa.out).mono ?_
      rintro e w10 ⟨vx, rfl, hx, hb⟩
      have Hx := Lib.hid hx
      clear hx
      replace HB := Lib.hid (HB.out.trans (hb.mono HB.out.size))
      replace Ha := Lib.hid (Ha.out.below hb)
      replace Hb := Lib.hid (Hb.out.below hb)
      replace HT := Lib.hid (HT.out.below hb HT.out.size)
      clear hb
      have Fx : Hid (Fine (withM a k)) := FW
      go_wp2_with fail
      refine (len_f Hx.out Fx.out mw E5.out).mono ?_
      rintro e w11 ⟨rfl, rfl⟩
      go_wp2_with fail
      refine (len_f Ha.out Fa.out ma E3.out).mono ?_
      rintro e w12 ⟨rfl, rfl⟩
      clear Hx Fx
      go_wp2_with fail
      refine (without_f k Ha.out Fa.out).mono ?_
      rintro e w13 ⟨vx, rfl, hx, hb⟩
      have Hx := Lib.hid hx
      clear hx
      replace HB := Lib.hid (HB.out.trans (hb.mono HB.out.size))
      replace Ha := Lib.hid (Ha.out.below hb)
      replace Hb := Lib.hid (Hb.out.below hb)
      replace HT := Lib.hid (HT.out.below hb HT.out.size)
      clear hb
      have Fx : Hid (Fine (withoutM a k)) := FO
      go_wp2_with fail
      refine (len_f Hx.out Fx.out mo E6.out).mono ?_
      rintro e w14 ⟨rfl, rfl⟩
      go_wp2_with fail
      refine (len_f Ha.out Fa.out ma E3.out).mono ?_
      rintro e w15 ⟨rfl, rfl⟩
      clear Hx Fx
      go_wp2
      go_ret
      exact ⟨rfl, HB.out⟩
  · have dab := decide_eq_false hab
    clear hab
    go_enter Tryd.func8, Tryd.ntmps8
    go_wp2_with fail
    refine (awake_any _ HT.out).mono ?_
    rintro e w1 ⟨rfl, hb⟩
    replace HB := Lib.hid (HB.out.trans (hb.mono HB.out.size))
    replace Ha := Lib.hid (Ha.out.below hb)
    replace Hb := Lib.hid (Hb.out.below hb)
    replace HT := Lib.hid (HT.out.below hb HT.out.size)
    clear hb
    go_wp2_with fail
    refine (few_any _ _ _ _ _ _ _).mono ?_
    rintro e w2 ⟨rfl, rfl⟩
    rw [dab]
    go_wp2
    go_ret
    exact ⟨rfl, HB.out⟩
end Go.Proofs.YtaedijblgogmmaaDoor
