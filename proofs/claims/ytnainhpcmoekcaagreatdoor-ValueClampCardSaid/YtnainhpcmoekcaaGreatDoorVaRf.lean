/- value: the reference's plain, Valid, ValidSort, Number (tools/gen_vrf.py). -/
import Derived.Test.YtnainhpcmoekcaaGreatDoorVaF
namespace Go.Proofs.YtnainhpcmoekcaaGreatDoor
open Go.RowKit

set_option maxRecDepth 100000 in
theorem rplain_any (s : Bs) (w : World) (hl : s.length ≤ 1000000) : Calls Tryz.prog 46 #[.string (ofL s)] w (Tells w (.bool (prB s))) := by
  have HB0 := Lib.hid (Below.refl w.heap.size w)
  obtain ⟨S, hS⟩ : ∃ S, S = ofL s := ⟨_, rfl⟩
  rw [← hS]
  have HZ : Hid (S.size = s.length) := Lib.hid (by rw [hS]; exact ofL_size s)
  have HG : Hid (∀ (k : Nat) (h : k < S.size), S[k] = s[k]'(by have := HZ.out; omega)) := Lib.hid (by subst hS; exact fun k h => ofL_get s k h)
  clear hS
  go_enter Tryz.func46, Tryz.ntmps46
  go_wp2
  go_loopw [3] (fun vi wr => ∃ k : Nat, k ≤ S.size ∧ vi = .int .i64 (k : Int) ∧ Hid (prB (s.take k) = true) ∧ Hid (Below w.heap.size w wr)) (fun vi _ => S.size - (intOf vi).toNat)
  case atStart => exact ⟨0, Nat.zero_le _, rfl, Lib.hid rfl, HB0⟩
  case round =>
    clear HB0
    obtain ⟨k, hk, rfl, HP, HB⟩ := hrel
    have hkb : k ≤ 1000000 := by have := HZ.out; omega
    by_cases hlt : k < S.size
    · have hl2 : k < s.length := by have := HZ.out; omega
      obtain ⟨x, hx⟩ : ∃ x, x = s[k].toNat := ⟨_, rfl⟩
      have hg : (S[k]'hlt).toNat = x := by rw [hx, HG.out k hlt]
      by_cases h1 : x < 32
      · have HF := Lib.hid (prB_bad hl2 (by omega))
        have d1 : decide ((x : Int) < 32) = true := decide_eq_true (by omega)
        clear HG hx
        go_wp2
        go_ret
        exact ⟨by rw [HF.out]; rfl, HB.out⟩
      · have d1 : decide ((x : Int) < 32) = false := decide_eq_false (by omega)
        by_cases h2 : 126 < x
        · have HF := Lib.hid (prB_bad hl2 (by omega))
          have d2 : decide (126 < (x : Int)) = true := decide_eq_true (by omega)
          clear HG hx
          go_wp2
          go_ret
          exact ⟨by rw [HF.out]; rfl, HB.out⟩
        · have d2 : decide (126 < (x : Int)) = false := decide_eq_false (by omega)
          have HN := Lib.hid (prB_next HP.out hl2 (by omega) (by omega))
          clear HG hx HP
          go_wp2
          go_roundw
          case rel => exact ⟨k + 1, by omega, by go_num, HN, HB⟩
          case measure => simp [intOf]; omega
    · obtain rfl : k = S.size := by omega
      have HF := HP.out
      rw [List.take_of_length_le (by rw [HZ.out]; omega)] at HF
      go_wp2
      go_ret
      exact ⟨by rw [HF]; rfl, HB.out⟩
set_option maxRecDepth 100000 in
theorem rvalid_any (k n : Int) (s : Bs) (w : World) : Calls Tryz.prog 14 #[vl k n s] w (Tells w (.bool (vlB k n s))) := by
  have HB := Lib.hid (al1 w (.cells #[.int .i64 k, .int .i64 n, .string (ofL s)] 25))
  unfold vl
  by_cases h1 : k = 1
  · subst h1
    have HV0 := Lib.hid (show vlB 1 n s = (decide (s = []) && inB n) from rfl)
    by_cases a1 : -1000 ≤ n
    · have d1 : decide (-1000 ≤ n) = true := decide_eq_true a1
      by_cases a2 : n ≤ 1000
      · have d2 : decide (n ≤ 1000) = true := decide_eq_true a2
        have HI := Lib.hid (show inB n = true by unfold inB; exact decide_eq_true ⟨a1, a2⟩)
        by_cases h2 : s = []
        · obtain ⟨e1, e2⟩ := ofL_nil h2
          have HV := Lib.hid (show vlB 1 n s = true by rw [HV0.out, HI.out, decide_eq_true h2]; rfl)
          clear h2 HV0 HI a1 a2
          go_enter Tryz.func14, Tryz.ntmps14
          go_wp2_with fail
          go_ret
          exact ⟨by rw [HV.out]; rfl, HB.out⟩
        · obtain ⟨e1, e2⟩ := ofL_cons h2
          have HV := Lib.hid (show vlB 1 n s = false by rw [HV0.out, decide_eq_false h2]; rfl)
          clear h2 HV0 HI a1 a2
          go_enter Tryz.func14, Tryz.ntmps14
          go_wp2_with fail
          go_ret
          exact ⟨by rw [HV.out]; rfl, HB.out⟩
      · have d2 : decide (n ≤ 1000) = false := decide_eq_false a2
        have HV := Lib.hid (show vlB 1 n s = false by rw [HV0.out, show inB n = false from decide_eq_false (fun h => a2 h.2)]; simp)
        clear HV0
        go_enter Tryz.func14, Tryz.ntmps14
        go_wp2_with fail
        go_ret
        exact ⟨by rw [HV.out]; rfl, HB.out⟩
    · have d1 : decide (-1000 ≤ n) = false := decide_eq_false a1
      have HV := Lib.hid (show vlB 1 n s = false by rw [HV0.out, show inB n = false from decide_eq_false (fun h => a1 h.1)]; simp)
      clear HV0
      go_enter Tryz.func14, Tryz.ntmps14
      go_wp2_with fail
      go_ret
      exact ⟨by rw [HV.out]; rfl, HB.out⟩
  · obtain ⟨g1, g2⟩ := eqb k 1 h1
    by_cases h2 : k = 2
    · subst h2
      by_cases h3 : n = 0
      · subst h3
        by_cases h4 : s.length ≤ 40
        · have HV := Lib.hid (show vlB 2 0 s = prB s by simp [vlB, h4])
          have hz := ofL_size s
          have hz2 : (ofL s).size ≤ 40 := by omega
          have d4 : decide (((ofL s).size : Int) ≤ 40) = true := decide_eq_true (by omega)
          clear hz
          go_enter Tryz.func14, Tryz.ntmps14
          go_wp2_with fail
          refine (rplain_any s _ (by omega)).mono ?_
          rintro e w1 ⟨rfl, hb⟩
          have HB1 := Lib.hid (below_ext2 HB.out hb)
          clear hb
          go_wp2_with fail
          go_ret
          exact ⟨by rw [HV.out]; rfl, HB1.out⟩
        · have HV := Lib.hid (show vlB 2 0 s = false by simp [vlB, h4])
          have hz := ofL_size s
          have hz2 : ¬ (ofL s).size ≤ 40 := by omega
          have d4 : decide (((ofL s).size : Int) ≤ 40) = false := decide_eq_false (by omega)
          clear hz
          go_enter Tryz.func14, Tryz.ntmps14
          go_wp2_with fail
          go_ret
          exact ⟨by rw [HV.out]; rfl, HB.out⟩
      · obtain ⟨g3, g4⟩ := eqb n 0 h3
        have HV := Lib.hid (show vlB 2 n s = false by simp [vlB, h3])
        go_enter Tryz.func14, Tryz.ntmps14
        go_wp2_with fail
        go_ret
        exact ⟨by rw [HV.out]; rfl, HB.out⟩
    · obtain ⟨g3, g4⟩ := eqb k 2 h2
      have HV := Lib.hid (show vlB k n s = false by simp [vlB, h1, h2])
      go_enter Tryz.func14, Tryz.ntmps14
      go_wp2_with fail
      go_ret
      exact ⟨by rw [HV.out]; rfl, HB.out⟩
set_option maxRecDepth 100000 in
theorem rnumber_any (k n : Int) (s : Bs) (w : World) : Calls Tryz.prog 18 #[vl k n s] w (Tells w (.int .i64 (nuI k n s))) := by
  have HB := Lib.hid (al1 w (.cells #[.int .i64 k, .int .i64 n, .string (ofL s)] 25))
  unfold vl
  by_cases h1 : k = 1
  · subst h1
    go_enter Tryz.func18, Tryz.ntmps18
    go_wp2_with fail
    go_ret
    exact ⟨rfl, HB.out⟩
  · obtain ⟨g1, g2⟩ := eqb k 1 h1
    by_cases h2 : k = 2
    · subst h2
      have HZ := Lib.hid (ofL_size s)
      go_enter Tryz.func18, Tryz.ntmps18
      go_wp2_with fail
      go_ret
      exact ⟨by rw [show nuI 2 n s = ((ofL s).size : Int) by rw [HZ.out]; rfl]; rfl, HB.out⟩
    · obtain ⟨g3, g4⟩ := eqb k 2 h2
      have HV := Lib.hid (show nuI k n s = 0 by simp [nuI, h1, h2])
      go_enter Tryz.func18, Tryz.ntmps18
      go_wp2_with fail
      go_ret
      exact ⟨by rw [HV.out]; rfl, HB.out⟩
theorem rso_walk (k lo hi : Int) (w : World) : Calls Tryz.prog 16 #[so k lo hi] w (Tells w (.bool (soB k lo hi))) := by
  have HB := Lib.hid (al1 w (.cells #[.int .i64 k, .int .i64 lo, .int .i64 hi] 23))
  unfold so
  by_cases h1 : k = 1
  · subst h1
    have HV := Lib.hid (show soB 1 lo hi = decide (-1000 ≤ lo ∧ lo ≤ hi ∧ hi ≤ 1000) from rfl)
    by_cases a1 : -1000 ≤ lo
    · have d1 : decide (-1000 ≤ lo) = true := decide_eq_true a1
      by_cases a2 : lo ≤ hi
      · have d2 : decide (lo ≤ hi) = true := decide_eq_true a2
        have HW := Lib.hid (show soB 1 lo hi = decide (hi ≤ 1000) by rw [HV.out]; simp [a1, a2])
        clear HV a1 a2
        go_enter Tryz.func16, Tryz.ntmps16
        go_wp2_with fail
        go_ret
        exact ⟨by rw [HW.out]; rfl, HB.out⟩
      · have d2 : decide (lo ≤ hi) = false := decide_eq_false a2
        have HW := Lib.hid (show soB 1 lo hi = false by rw [HV.out]; exact decide_eq_false (fun h => a2 h.2.1))
        clear HV
        go_enter Tryz.func16, Tryz.ntmps16
        go_wp2_with fail
        go_ret
        exact ⟨by rw [HW.out]; rfl, HB.out⟩
    · have d1 : decide (-1000 ≤ lo) = false := decide_eq_false a1
      have HW := Lib.hid (show soB 1 lo hi = false by rw [HV.out]; exact decide_eq_false (fun h => a1 h.1))
      clear HV
      go_enter Tryz.func16, Tryz.ntmps16
      go_wp2_with fail
      go_ret
      exact ⟨by rw [HW.out]; rfl, HB.out⟩
  · obtain ⟨g1, g2⟩ := eqb k 1 h1
    by_cases h2 : k = 2
    · subst h2
      have HV := Lib.hid (show soB 2 lo hi = decide (0 ≤ lo ∧ lo ≤ hi ∧ hi ≤ 40) from rfl)
      by_cases a1 : 0 ≤ lo
      · have d1 : decide (0 ≤ lo) = true := decide_eq_true a1
        by_cases a2 : lo ≤ hi
        · have d2 : decide (lo ≤ hi) = true := decide_eq_true a2
          have HW := Lib.hid (show soB 2 lo hi = decide (hi ≤ 40) by rw [HV.out]; simp [a1, a2])
          clear HV a1 a2
          go_enter Tryz.func16, Tryz.ntmps16
          go_wp2_with fail
          go_ret
          exact ⟨by rw [HW.out]; rfl, HB.out⟩
        · have d2 : decide (lo ≤ hi) = false := decide_eq_false a2
          have HW := Lib.hid (show soB 2 lo hi = false by rw [HV.out]; exact decide_eq_false (fun h => a2 h.2.1))
          clear HV
          go_enter Tryz.func16, Tryz.ntmps16
          go_wp2_with fail
          go_ret
          exact ⟨by rw [HW.out]; rfl, HB.out⟩
      · have d1 : decide (0 ≤ lo) = false := decide_eq_false a1
        have HW := Lib.hid (show soB 2 lo hi = false by rw [HV.out]; exact decide_eq_false (fun h => a1 h.1))
        clear HV
        go_enter Tryz.func16, Tryz.ntmps16
        go_wp2_with fail
        go_ret
        exact ⟨by rw [HW.out]; rfl, HB.out⟩
    · obtain ⟨g3, g4⟩ := eqb k 2 h2
      have HW := Lib.hid (show soB k lo hi = false by simp [soB, h1, h2])
      go_enter Tryz.func16, Tryz.ntmps16
      go_wp2_with fail
      go_ret
      exact ⟨by rw [HW.out]; rfl, HB.out⟩
end Go.Proofs.YtnainhpcmoekcaaGreatDoor
