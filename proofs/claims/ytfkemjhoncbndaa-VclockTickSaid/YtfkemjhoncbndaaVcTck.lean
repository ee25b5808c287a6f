/- VclockTick: for every input the law returns true (tools/vclaw_gen.py). -/
import Derived.Test.YtfkemjhoncbndaaVcAw
namespace Go.Proofs.Ytfkemjhoncbndaa
open Go.RowKit

set_option maxRecDepth 100000 in
set_option maxHeartbeats 4000000 in
theorem vclocktick_walk (A : Option Addr) (c : Nat) (a : List Int) (role n : Int) (w : World) (ha : Sl iv w (.slice A a.length c) a) (_ : a.length ≤ 17592186044000) (_ : I64 role) (_ : I64 n) :
    Calls Try.prog 4 #[.slice A a.length c, .int .i64 role, .int .i64 n] w (Ok w) := by
  have Ha := Lib.hid ha
  clear ha
  have HB := Lib.hid (Below.refl w.heap.size w)
  cases hfew : fewB a.length 0 with
  | false =>
    have Hfew := Lib.hid hfew
    clear hfew
    go_enter Try.func4, Try.ntmps4
    go_wp2_with fail
    refine (awake_any _).mono ?_
    rintro e w1 ⟨rfl, hb⟩
    replace HB := Lib.hid (HB.out.trans (hb.mono HB.out.size))
    replace Ha := Lib.hid (Ha.out.below hb)
    clear hb
    go_wp2_with fail
    refine (few_any _ _ _ _ _ _ _).mono ?_
    rintro e w2 ⟨rfl, rfl⟩
    rw [Hfew.out]
    go_wp2
    go_ret
    exact ⟨rfl, HB.out⟩
  | true =>
    have Hfew := Lib.hid hfew
    unfold fewB at hfew
    rw [decide_eq_true_iff] at hfew
    obtain ⟨la, lb⟩ := hfew
    go_enter Try.func4, Try.ntmps4
    go_wp2_with fail
    refine (awake_any _).mono ?_
    rintro e w1 ⟨rfl, hb⟩
    replace HB := Lib.hid (HB.out.trans (hb.mono HB.out.size))
    replace Ha := Lib.hid (Ha.out.below hb)
    clear hb
    go_wp2_with fail
    refine (few_any _ _ _ _ _ _ _).mono ?_
    rintro e w2 ⟨rfl, rfl⟩
    rw [Hfew.out]
    have Hl1 := tickR_len a role
    have Hl2 := zeroR_len n
    have Ho1 := Lib.hid (tickR_ok a role)
    have Ho2 := Lib.hid (zeroR_ok n)
    have Ht := Lib.hid (fun w h => tick_any (.slice A a.length c) a role w h (by omega))
    have Hrt := Lib.hid (fun w h => rtick_any (.slice A a.length c) a role w h (by omega))
    have Hz0 := Lib.hid (fun w => zero_any n w)
    have Hrz := Lib.hid (fun w => rzero_any n w)
    obtain ⟨⟨l1, x1⟩, h1⟩ : ∃ r, r = tickR a role := ⟨_, rfl⟩
    obtain ⟨⟨l2, x2⟩, h2⟩ : ∃ r, r = zeroR n := ⟨_, rfl⟩
    rw [← h1] at Hl1 Ho1 Ht Hrt
    rw [← h2] at Hl2 Ho2 Hz0 Hrz
    dsimp only at Hl1 Hl2 Ho1 Ho2
    clear h1 h2
    have HE1 := Lib.hid (eqB_self l1)
    have HE2 := Lib.hid (eqB_self l2)
    go_wp2_with fail
    refine (Ht.out _ Ha.out).mono ?_
    rintro e w3 ⟨vp, rfl, ho, hb⟩
    replace HB := Lib.hid (HB.out.trans (hb.mono HB.out.size))
    replace Ha := Lib.hid (Ha.out.below hb)
    have Hp := Lib.hid (Sl.of_own ho)
    obtain ⟨Ap, cp, rfl⟩ := own_shapeG ho
    clear ho hb
    go_wp2_with fail
    refine (Hrt.out _ Ha.out).mono ?_
    rintro e w4 ⟨vq, rfl, ho, hb⟩
    replace HB := Lib.hid (HB.out.trans (hb.mono HB.out.size))
    replace Hp := Lib.hid (Hp.out.below hb)
    have Hq := Lib.hid (Sl.of_own ho)
    obtain ⟨Aq, cq, rfl⟩ := own_shapeG ho
    clear ho hb
    go_wp2_with fail
    refine (Hz0.out _).mono ?_
    rintro e w5 ⟨vz, rfl, ho, hb⟩
    replace HB := Lib.hid (HB.out.trans (hb.mono HB.out.size))
    replace Hp := Lib.hid (Hp.out.below hb)
    replace Hq := Lib.hid (Hq.out.below hb)
    have Hz := Lib.hid (Sl.of_own ho)
    obtain ⟨Az, cz, rfl⟩ := own_shapeG ho
    clear ho hb
    go_wp2_with fail
    refine (Hrz.out _).mono ?_
    rintro e w6 ⟨vy, rfl, ho, hb⟩
    replace HB := Lib.hid (HB.out.trans (hb.mono HB.out.size))
    replace Hp := Lib.hid (Hp.out.below hb)
    replace Hq := Lib.hid (Hq.out.below hb)
    replace Hz := Lib.hid (Hz.out.below hb)
    have Hy := Lib.hid (Sl.of_own ho)
    obtain ⟨Ay, cy, rfl⟩ := own_shapeG ho
    clear ho hb
    go_wp2_with fail
    refine (requal_any _ _ _ _ _ Hp.out Hq.out (by omega) (by omega)).mono ?_
    rintro e w7 ⟨rfl, hq⟩
    have hb := quiet_below hq
    replace HB := Lib.hid (HB.out.trans (hb.mono HB.out.size))
    replace Hp := Lib.hid (Hp.out.below hb)
    replace Hz := Lib.hid (Hz.out.below hb)
    replace Hy := Lib.hid (Hy.out.below hb)
    clear hb hq
    rw [HE1.out]
    go_wp2_with fail
    refine (requal_any _ _ _ _ _ Hz.out Hy.out (by omega) (by omega)).mono ?_
    rintro e w8 ⟨rfl, hq⟩
    have hb := quiet_below hq
    replace HB := Lib.hid (HB.out.trans (hb.mono HB.out.size))
    replace Hp := Lib.hid (Hp.out.below hb)
    replace Hz := Lib.hid (Hz.out.below hb)
    clear hb hq
    rw [HE2.out]
    go_wp2_with fail
    refine (valid_any _ _ _ Hp.out (by omega)).mono ?_
    rintro e w9 ⟨rfl, rfl⟩
    rw [Ho1.out]
    go_wp2_with fail
    refine (valid_any _ _ _ Hz.out (by omega)).mono ?_
    rintro e w9 ⟨rfl, rfl⟩
    rw [Ho2.out]
    go_wp2
    go_ret
    exact ⟨rfl, HB.out⟩
end Go.Proofs.Ytfkemjhoncbndaa
