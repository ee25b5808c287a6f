/- value: the reference's sign and Compare (tools/gen_vrc.py). -/
import Derived.Test.YtnainhpcmoekcaaGreatDoorVaS
import Derived.Test.YtnainhpcmoekcaaGreatDoorVaI
import Derived.Test.YtnainhpcmoekcaaGreatDoorWd
namespace Go.Proofs.YtnainhpcmoekcaaGreatDoor
open Go.RowKit

theorem rsign_any (x y : Int) (w : World) : Calls Tryz.prog 50 #[.int .i64 x, .int .i64 y] w fun e w' => e = .returned (.int .i64 (cmpI x y)) ∧ Below w.heap.size w w' := by
  obtain ⟨R, hR⟩ : ∃ R, R = cmpI x y := ⟨_, rfl⟩
  rw [← hR]
  by_cases h0 : x < y
  · have e : R = -1 := by rw [hR, cmpI, if_pos h0]
    subst e
    have d0 : decide (x < y) = true := decide_eq_true h0
    clear hR
    go_enter Tryz.func50, Tryz.ntmps50
    go_wp2_with fail
    go_ret
    exact ⟨rfl, Below.refl _ _⟩
  · have d0 : decide (x < y) = false := decide_eq_false h0
    by_cases h1 : y < x
    · have e : R = 1 := by rw [hR, cmpI, if_neg h0, if_pos h1]
      subst e
      have d1 : decide (y < x) = true := decide_eq_true h1
      clear hR
      go_enter Tryz.func50, Tryz.ntmps50
      go_wp2_with fail
      go_ret
      exact ⟨rfl, Below.refl _ _⟩
    · have e : R = 0 := by rw [hR, cmpI, if_neg h0, if_neg h1]
      subst e
      have d1 : decide (y < x) = false := decide_eq_false h1
      clear hR
      go_enter Tryz.func50, Tryz.ntmps50
      go_wp2_with fail
      go_ret
      exact ⟨rfl, Below.refl _ _⟩

theorem neqb {c : Int} (h : c ≠ 0) : (c == 0) = false ∧ (c != 0) = true ∧ decide (c = 0) = false := ⟨by rw [beq_eq_false_iff_ne]; exact h, by rw [bne, beq_eq_false_iff_ne.2 h]; rfl, decide_eq_false h⟩
theorem lexC_drop {s t : Bs} {k : Nat} (h1 : k < s.length) (h2 : k < t.length) : lexC (s.drop k) (t.drop k) = if cmpI (s[k].toNat : Int) (t[k].toNat : Int) = 0 then lexC (s.drop (k + 1)) (t.drop (k + 1)) else cmpI (s[k].toNat : Int) (t[k].toNat : Int) := by
  rw [List.drop_eq_getElem_cons h1, List.drop_eq_getElem_cons h2, lexC]
  unfold cmpI
  by_cases a1 : s[k].toNat < t[k].toNat
  · rw [if_pos a1, if_pos (by omega : (s[k].toNat : Int) < t[k].toNat), if_neg (by decide)]
  · by_cases a2 : t[k].toNat < s[k].toNat
    · rw [if_neg a1, if_pos a2, if_neg (by omega : ¬ (s[k].toNat : Int) < t[k].toNat), if_pos (by omega : (t[k].toNat : Int) < s[k].toNat), if_neg (by decide)]
    · rw [if_neg a1, if_neg a2, if_neg (by omega : ¬ (s[k].toNat : Int) < t[k].toNat), if_neg (by omega : ¬ (t[k].toNat : Int) < s[k].toNat), if_pos rfl]
set_option maxRecDepth 100000 in
set_option maxHeartbeats 3200000 in
theorem rcompare_any (k0 n0 : Int) (s : Bs) (k1 n1 : Int) (t : Bs) (w : World) (hl : s.length ≤ 9223372036854775806) : Calls Tryz.prog 22 #[vl k0 n0 s, vl k1 n1 t] w (Tells w (.int .i64 (cmpV k0 n0 s k1 n1 t))) := by
  unfold vl
  obtain ⟨S, hS⟩ : ∃ S, S = ofL s := ⟨_, rfl⟩
  obtain ⟨U, hU⟩ : ∃ U, U = ofL t := ⟨_, rfl⟩
  rw [← hS, ← hU]
  have HZ : Hid (S.size = s.length ∧ U.size = t.length) := Lib.hid ⟨by rw [hS]; exact ofL_size s, by rw [hU]; exact ofL_size t⟩
  have HGS : Hid (∀ (k : Nat) (h : k < S.size), S[k] = s[k]'(by have := HZ.out.1; omega)) := Lib.hid (by subst hS; exact fun k h => ofL_get s k h)
  have HGT : Hid (∀ (k : Nat) (h : k < U.size), U[k] = t[k]'(by have := HZ.out.2; omega)) := Lib.hid (by subst hU; exact fun k h => ofL_get t k h)
  clear hS hU
  obtain ⟨R, hR⟩ : ∃ R, R = cmpV k0 n0 s k1 n1 t := ⟨_, rfl⟩
  obtain ⟨c0, hc0⟩ : ∃ c, c = cmpI k0 k1 := ⟨_, rfl⟩
  obtain ⟨c1, hc1⟩ : ∃ c, c = cmpI n0 n1 := ⟨_, rfl⟩
  obtain ⟨c2, hc2⟩ : ∃ c, c = cmpI ((S.size : Nat) : Int) ((U.size : Nat) : Int) := ⟨_, rfl⟩
  obtain ⟨c3, hc3⟩ : ∃ c, c = lexC s t := ⟨_, rfl⟩
  have HR := Lib.hid (show R = orI [c0, c1, c2, c3] by rw [hR, hc0, hc1, hc2, hc3, HZ.out.1, HZ.out.2]; rfl)
  have HC2 := Lib.hid hc2
  have HC3 := Lib.hid hc3
  have HS0 := Lib.hid (show ∀ W, Calls Tryz.prog 50 #[.int .i64 k0, .int .i64 k1] W (Tells W (.int .i64 c0)) from fun W => by rw [hc0]; exact rsign_any k0 k1 W)
  have HS1 := Lib.hid (show ∀ W, Calls Tryz.prog 50 #[.int .i64 n0, .int .i64 n1] W (Tells W (.int .i64 c1)) from fun W => by rw [hc1]; exact rsign_any n0 n1 W)
  have HS2 := Lib.hid (show ∀ W, Calls Tryz.prog 50 #[.int .i64 ((S.size : Nat) : Int), .int .i64 ((U.size : Nat) : Int)] W (Tells W (.int .i64 c2)) from fun W => by rw [hc2]; exact rsign_any _ _ W)
  rw [← hR]
  have HLN := Lib.hid hl
  clear hR hc0 hc1 hc2 hc3 hl
  have hbz := al3 w (.cells #[.int .i64 k0, .int .i64 n0, .string S] 25) (.cells #[.int .i64 k1, .int .i64 n1, .string U] 25) (.cells #[.int .i64 k0, .int .i64 k1, .int .i64 n0, .int .i64 n1, .int .i64 ((S.size : Nat) : Int), .int .i64 ((U.size : Nat) : Int)] 58)
  have hxa := heap_3a w (.cells #[.int .i64 k0, .int .i64 n0, .string S] 25) (.cells #[.int .i64 k1, .int .i64 n1, .string U] 25) (.cells #[.int .i64 k0, .int .i64 k1, .int .i64 n0, .int .i64 n1, .int .i64 ((S.size : Nat) : Int), .int .i64 ((U.size : Nat) : Int)] 58)
  have hxb := heap_3b w (.cells #[.int .i64 k0, .int .i64 n0, .string S] 25) (.cells #[.int .i64 k1, .int .i64 n1, .string U] 25) (.cells #[.int .i64 k0, .int .i64 k1, .int .i64 n0, .int .i64 n1, .int .i64 ((S.size : Nat) : Int), .int .i64 ((U.size : Nat) : Int)] 58)
  have hxc := heap_3c w (.cells #[.int .i64 k0, .int .i64 n0, .string S] 25) (.cells #[.int .i64 k1, .int .i64 n1, .string U] 25) (.cells #[.int .i64 k0, .int .i64 k1, .int .i64 n0, .int .i64 n1, .int .i64 ((S.size : Nat) : Int), .int .i64 ((U.size : Nat) : Int)] 58)
  have HBZ := Lib.hid hbz
  have HXA := Lib.hid (show Bx _ w.heap.size 25 #[.int .i64 k0, .int .i64 n0, .string S] from hxa)
  have HXB := Lib.hid (show Bx _ (w.heap.size + 1) 25 #[.int .i64 k1, .int .i64 n1, .string U] from hxb)
  have HXC := Lib.hid (show Bx _ (w.heap.size + 1 + 1) 58 #[.int .i64 k0, .int .i64 k1, .int .i64 n0, .int .i64 n1, .int .i64 ((S.size : Nat) : Int), .int .i64 ((U.size : Nat) : Int)] from hxc)
  clear hbz hxa hxb hxc
  go_enter Tryz.func22, Tryz.ntmps22
  go_wp2_with fail
  go_loopw [6, 7] (fun vi _ wr => ∃ i : Int, vi = .int .i64 i ∧ (i = 0 ∨ i = 2 ∧ c0 = 0 ∨ i = 4 ∧ c0 = 0 ∧ c1 = 0 ∨ i = 6 ∧ c0 = 0 ∧ c1 = 0 ∧ c2 = 0) ∧ Hid (Below w.heap.size w wr) ∧ Hid (Bx wr w.heap.size 25 #[.int .i64 k0, .int .i64 n0, .string S]) ∧ Hid (Bx wr (w.heap.size + 1) 25 #[.int .i64 k1, .int .i64 n1, .string U]) ∧ Hid (Bx wr (w.heap.size + 1 + 1) 58 #[.int .i64 k0, .int .i64 k1, .int .i64 n0, .int .i64 n1, .int .i64 ((S.size : Nat) : Int), .int .i64 ((U.size : Nat) : Int)])) (fun vi _ _ => 6 - (intOf vi).toNat)
  case atStart => exact ⟨0, rfl, .inl rfl, HBZ, HXA, HXB, HXC⟩
  case round =>
    clear HBZ HXA HXB HXC
    obtain ⟨i, rfl, hi, HB, HX, HY, HA⟩ := hrel
    rcases hi with rfl | ⟨rfl, rfl⟩ | ⟨rfl, rfl, rfl⟩ | ⟨rfl, rfl, rfl, rfl⟩
    · go_wp2_with fail
      refine region_phi (n := 61) (Wd [(false, .int .i64 0),
          (false, .pointer (some ⟨w.heap.size + 1 + 1, 0, none⟩)),
          (false, .int .i64 k0),
          (false, .int .i64 0),
          (false, .int .i64 1),
          (false, .pointer (some ⟨w.heap.size + 1 + 1, 1, none⟩)),
          (false, .int .i64 k1),
          (false, .int .i64 c0),
          (false, .int .i64 c0)]) (by kernel_rfl) (by kernel_rfl) rfl (fun _ _ _ _ h _ => h) (allOps_spec ?_) ?_
      · refine ⟨?_, ?_, ?_, ?_, ?_, ?_, ?_, ?_, ?_, trivial⟩
        · intro ac w' hb hp
          have b6 : ac.tmps[6]?.getD undef = .int .i64 0 := hb.at 6 (by kernel_rfl)
          exact wd_run rfl rfl (by simp [execOp, go_sem, Act.eval, b6])
        · intro ac w' hb hp
          have b5 : ac.tmps[5]?.getD undef = .pointer (some ⟨w.heap.size + 1 + 1, 0, none⟩) := hb.at 5 (by kernel_rfl)
          exact wd_run rfl rfl (by simp [execOp, go_sem, Act.eval, b5, wd_get (hp ⟨0, .data⟩ (by simp) rfl _ rfl) rfl rfl])
        · intro ac w' hb hp
          have q0 := (HA.out.below hb.ext).cell 0
          exact wd_run rfl rfl (by simp [execOp, go_sem, Act.eval, wd_get (hp ⟨1, .data⟩ (by simp) rfl _ rfl) rfl rfl, q0])
        · intro ac w' hb hp
          have b6 : ac.tmps[6]?.getD undef = .int .i64 0 := hb.at 6 (by kernel_rfl)
          exact wd_run rfl rfl (by simp [execOp, go_sem, Act.eval, b6])
        · exact fun ac w' hb hp => wd_run rfl rfl (by simp [execOp, go_sem, Act.eval, wd_get (hp ⟨3, .data⟩ (by simp) rfl _ rfl) rfl rfl] <;> decide)
        · intro ac w' hb hp
          have b5 : ac.tmps[5]?.getD undef = .pointer (some ⟨w.heap.size + 1 + 1, 0, none⟩) := hb.at 5 (by kernel_rfl)
          exact wd_run rfl rfl (by simp [execOp, go_sem, Act.eval, b5, wd_get (hp ⟨4, .data⟩ (by simp) rfl _ rfl) rfl rfl])
        · intro ac w' hb hp
          have q0 := (HA.out.below hb.ext).cell 1
          exact wd_run rfl rfl (by simp [execOp, go_sem, Act.eval, wd_get (hp ⟨5, .data⟩ (by simp) rfl _ rfl) rfl rfl, q0])
        · intro ac w' hb hp
          refine step_call (f := 50) (args := #[.int .i64 k0, .int .i64 k1]) rfl (by simp [go_sem, wd_get (hp ⟨2, .data⟩ (by simp) rfl _ rfl) rfl rfl, wd_get (hp ⟨6, .data⟩ (by simp) rfl _ rfl) rfl rfl]) ?_
          exact (HS0.out w').mono fun e w9 h9 => ⟨_, h9.1, h9.2, wd_mk rfl fun _ => rfl⟩
        · exact fun ac w' hb hp => wd_run rfl rfl (by simp [execOp, go_sem, Act.eval, wd_get (hp ⟨7, .data⟩ (by simp) rfl _ rfl) rfl rfl])
      · intro vz w9 hext hall
        have HEXT := Lib.hid hext
        have e8 : vz 8 = .int .i64 c0 := hall 8 (by decide) rfl
        clear hext hall
        simp only [putAll, Act.put, List.setIfInBounds_toArray, List.set_cons_zero, List.set_cons_succ, Nat.zero_add, Nat.reduceAdd, e8]
        clear e8
        have HB9 := Lib.hid (HB.out.trans (HEXT.out.mono HB.out.size))
        have HX9 := Lib.hid (HX.out.below HEXT.out)
        have HY9 := Lib.hid (HY.out.below HEXT.out)
        have HA9 := Lib.hid (HA.out.below HEXT.out)
        clear HB HX HY HA HEXT
        by_cases hc : c0 = 0
        · subst hc
          go_wp2_with fail
          go_roundw
          case rel => exact ⟨2, by go_num, by simp, HB9, HX9, HY9, HA9⟩
          case measure => simp [intOf]
        · obtain ⟨g1, g2, g3⟩ := neqb hc
          have HQ := Lib.hid (show R = c0 by rw [HR.out]; simp [orI, hc])
          clear HR
          go_wp2_with fail
          go_ret
          exact ⟨by rw [HQ.out]; first | done | rfl, HB9.out⟩
    · go_wp2_with fail
      refine region_phi (n := 61) (Wd [(false, .int .i64 2),
          (false, .pointer (some ⟨w.heap.size + 1 + 1, 2, none⟩)),
          (false, .int .i64 n0),
          (false, .int .i64 2),
          (false, .int .i64 3),
          (false, .pointer (some ⟨w.heap.size + 1 + 1, 3, none⟩)),
          (false, .int .i64 n1),
          (false, .int .i64 c1),
          (false, .int .i64 c1)]) (by kernel_rfl) (by kernel_rfl) rfl (fun _ _ _ _ h _ => h) (allOps_spec ?_) ?_
      · refine ⟨?_, ?_, ?_, ?_, ?_, ?_, ?_, ?_, ?_, trivial⟩
        · intro ac w' hb hp
          have b6 : ac.tmps[6]?.getD undef = .int .i64 2 := hb.at 6 (by kernel_rfl)
          exact wd_run rfl rfl (by simp [execOp, go_sem, Act.eval, b6])
        · intro ac w' hb hp
          have b5 : ac.tmps[5]?.getD undef = .pointer (some ⟨w.heap.size + 1 + 1, 0, none⟩) := hb.at 5 (by kernel_rfl)
          exact wd_run rfl rfl (by simp [execOp, go_sem, Act.eval, b5, wd_get (hp ⟨0, .data⟩ (by simp) rfl _ rfl) rfl rfl])
        · intro ac w' hb hp
          have q0 := (HA.out.below hb.ext).cell 2
          exact wd_run rfl rfl (by simp [execOp, go_sem, Act.eval, wd_get (hp ⟨1, .data⟩ (by simp) rfl _ rfl) rfl rfl, q0])
        · intro ac w' hb hp
          have b6 : ac.tmps[6]?.getD undef = .int .i64 2 := hb.at 6 (by kernel_rfl)
          exact wd_run rfl rfl (by simp [execOp, go_sem, Act.eval, b6])
        · exact fun ac w' hb hp => wd_run rfl rfl (by simp [execOp, go_sem, Act.eval, wd_get (hp ⟨3, .data⟩ (by simp) rfl _ rfl) rfl rfl] <;> decide)
        · intro ac w' hb hp
          have b5 : ac.tmps[5]?.getD undef = .pointer (some ⟨w.heap.size + 1 + 1, 0, none⟩) := hb.at 5 (by kernel_rfl)
          exact wd_run rfl rfl (by simp [execOp, go_sem, Act.eval, b5, wd_get (hp ⟨4, .data⟩ (by simp) rfl _ rfl) rfl rfl])
        · intro ac w' hb hp
          have q0 := (HA.out.below hb.ext).cell 3
          exact wd_run rfl rfl (by simp [execOp, go_sem, Act.eval, wd_get (hp ⟨5, .data⟩ (by simp) rfl _ rfl) rfl rfl, q0])
        · intro ac w' hb hp
          refine step_call (f := 50) (args := #[.int .i64 n0, .int .i64 n1]) rfl (by simp [go_sem, wd_get (hp ⟨2, .data⟩ (by simp) rfl _ rfl) rfl rfl, wd_get (hp ⟨6, .data⟩ (by simp) rfl _ rfl) rfl rfl]) ?_
          exact (HS1.out w').mono fun e w9 h9 => ⟨_, h9.1, h9.2, wd_mk rfl fun _ => rfl⟩
        · exact fun ac w' hb hp => wd_run rfl rfl (by simp [execOp, go_sem, Act.eval, wd_get (hp ⟨7, .data⟩ (by simp) rfl _ rfl) rfl rfl])
      · intro vz w9 hext hall
        have HEXT := Lib.hid hext
        have e8 : vz 8 = .int .i64 c1 := hall 8 (by decide) rfl
        clear hext hall
        simp only [putAll, Act.put, List.setIfInBounds_toArray, List.set_cons_zero, List.set_cons_succ, Nat.zero_add, Nat.reduceAdd, e8]
        clear e8
        have HB9 := Lib.hid (HB.out.trans (HEXT.out.mono HB.out.size))
        have HX9 := Lib.hid (HX.out.below HEXT.out)
        have HY9 := Lib.hid (HY.out.below HEXT.out)
        have HA9 := Lib.hid (HA.out.below HEXT.out)
        clear HB HX HY HA HEXT
        by_cases hc : c1 = 0
        · subst hc
          go_wp2_with fail
          go_roundw
          case rel => exact ⟨4, by go_num, by simp, HB9, HX9, HY9, HA9⟩
          case measure => simp [intOf]
        · obtain ⟨g1, g2, g3⟩ := neqb hc
          have HQ := Lib.hid (show R = c1 by rw [HR.out]; simp [orI, hc])
          clear HR
          go_wp2_with fail
          go_ret
          exact ⟨by rw [HQ.out]; first | done | rfl, HB9.out⟩
    · go_wp2_with fail
      refine region_phi (n := 61) (Wd [(false, .int .i64 4),
          (false, .pointer (some ⟨w.heap.size + 1 + 1, 4, none⟩)),
          (false, .int .i64 ((S.size : Nat) : Int)),
          (false, .int .i64 4),
          (false, .int .i64 5),
          (false, .pointer (some ⟨w.heap.size + 1 + 1, 5, none⟩)),
          (false, .int .i64 ((U.size : Nat) : Int)),
          (false, .int .i64 c2),
          (false, .int .i64 c2)]) (by kernel_rfl) (by kernel_rfl) rfl (fun _ _ _ _ h _ => h) (allOps_spec ?_) ?_
      · refine ⟨?_, ?_, ?_, ?_, ?_, ?_, ?_, ?_, ?_, trivial⟩
        · intro ac w' hb hp
          have b6 : ac.tmps[6]?.getD undef = .int .i64 4 := hb.at 6 (by kernel_rfl)
          exact wd_run rfl rfl (by simp [execOp, go_sem, Act.eval, b6])
        · intro ac w' hb hp
          have b5 : ac.tmps[5]?.getD undef = .pointer (some ⟨w.heap.size + 1 + 1, 0, none⟩) := hb.at 5 (by kernel_rfl)
          exact wd_run rfl rfl (by simp [execOp, go_sem, Act.eval, b5, wd_get (hp ⟨0, .data⟩ (by simp) rfl _ rfl) rfl rfl])
        · intro ac w' hb hp
          have q0 := (HA.out.below hb.ext).cell 4
          exact wd_run rfl rfl (by simp [execOp, go_sem, Act.eval, wd_get (hp ⟨1, .data⟩ (by simp) rfl _ rfl) rfl rfl, q0])
        · intro ac w' hb hp
          have b6 : ac.tmps[6]?.getD undef = .int .i64 4 := hb.at 6 (by kernel_rfl)
          exact wd_run rfl rfl (by simp [execOp, go_sem, Act.eval, b6])
        · exact fun ac w' hb hp => wd_run rfl rfl (by simp [execOp, go_sem, Act.eval, wd_get (hp ⟨3, .data⟩ (by simp) rfl _ rfl) rfl rfl] <;> decide)
        · intro ac w' hb hp
          have b5 : ac.tmps[5]?.getD undef = .pointer (some ⟨w.heap.size + 1 + 1, 0, none⟩) := hb.at 5 (by kernel_rfl)
          exact wd_run rfl rfl (by simp [execOp, go_sem, Act.eval, b5, wd_get (hp ⟨4, .data⟩ (by simp) rfl _ rfl) rfl rfl])
        · intro ac w' hb hp
          have q0 := (HA.out.below hb.ext).cell 5
          exact wd_run rfl rfl (by simp [execOp, go_sem, Act.eval, wd_get (hp ⟨5, .data⟩ (by simp) rfl _ rfl) rfl rfl, q0])
        · intro ac w' hb hp
          refine step_call (f := 50) (args := #[.int .i64 ((S.size : Nat) : Int), .int .i64 ((U.size : Nat) : Int)]) rfl (by simp [go_sem, wd_get (hp ⟨2, .data⟩ (by simp) rfl _ rfl) rfl rfl, wd_get (hp ⟨6, .data⟩ (by simp) rfl _ rfl) rfl rfl]) ?_
          exact (HS2.out w').mono fun e w9 h9 => ⟨_, h9.1, h9.2, wd_mk rfl fun _ => rfl⟩
        · exact fun ac w' hb hp => wd_run rfl rfl (by simp [execOp, go_sem, Act.eval, wd_get (hp ⟨7, .data⟩ (by simp) rfl _ rfl) rfl rfl])
      · intro vz w9 hext hall
        have HEXT := Lib.hid hext
        have e8 : vz 8 = .int .i64 c2 := hall 8 (by decide) rfl
        clear hext hall
        simp only [putAll, Act.put, List.setIfInBounds_toArray, List.set_cons_zero, List.set_cons_succ, Nat.zero_add, Nat.reduceAdd, e8]
        clear e8
        have HB9 := Lib.hid (HB.out.trans (HEXT.out.mono HB.out.size))
        have HX9 := Lib.hid (HX.out.below HEXT.out)
        have HY9 := Lib.hid (HY.out.below HEXT.out)
        have HA9 := Lib.hid (HA.out.below HEXT.out)
        clear HB HX HY HA HEXT
        by_cases hc : c2 = 0
        · subst hc
          go_wp2_with fail
          go_roundw
          case rel => exact ⟨6, by go_num, by simp, HB9, HX9, HY9, HA9⟩
          case measure => simp [intOf]
        · obtain ⟨g1, g2, g3⟩ := neqb hc
          have HQ := Lib.hid (show R = c2 by rw [HR.out]; simp [orI, hc])
          clear HR
          go_wp2_with fail
          go_ret
          exact ⟨by rw [HQ.out]; first | done | rfl, HB9.out⟩
    · have HQ := Lib.hid (show R = c3 by rw [HR.out]; simp [orI]; exact fun h => h.symm)
      have HEQ := Lib.hid (show S.size = U.size by have := cmpI_z HC2.out.symm; omega)
      clear HR HC2 HS0 HS1 HS2 HA
      go_wp2_with fail
      go_loopw [8, 9] (fun vi _ wr2 => ∃ k : Nat, k ≤ S.size ∧ vi = .int .i64 (k : Int) ∧ Hid (R = lexC (s.drop k) (t.drop k)) ∧ Hid (Below w.heap.size w wr2) ∧ Hid (Bx wr2 w.heap.size 25 #[.int .i64 k0, .int .i64 n0, .string S]) ∧ Hid (Bx wr2 (w.heap.size + 1) 25 #[.int .i64 k1, .int .i64 n1, .string U])) (fun vi _ _ => S.size - (intOf vi).toNat)
      case atStart => exact ⟨0, Nat.zero_le _, rfl, Lib.hid (by rw [HQ.out, HC3.out]; rfl), HB, HX, HY⟩
      case round =>
        clear HB HX HY HQ HC3
        obtain ⟨k, hk, rfl, HQ, HB, HX, HY⟩ := hrel
        have hkb : k ≤ 9223372036854775806 := by have := HZ.out.1; have := HLN.out; omega
        have x2 := HX.out.cell 2
        by_cases hlt : k < S.size
        · have hu : k < U.size := by have := HEQ.out; omega
          have h1 : k < s.length := by have := HZ.out.1; omega
          have h2 : k < t.length := by have := HZ.out.2; omega
          have HD := Lib.hid (lexC_drop h1 h2)
          obtain ⟨x, hx⟩ : ∃ x, x = s[k].toNat := ⟨_, rfl⟩
          obtain ⟨y, hy⟩ : ∃ y, y = t[k].toNat := ⟨_, rfl⟩
          rw [← hx, ← hy] at HD
          have hgx : (S[k]'hlt).toNat = x := by rw [hx, HGS.out k hlt]
          have hgy : (U[k]'hu).toNat = y := by rw [hy, HGT.out k hu]
          have hxl : x < 256 := by rw [hx]; exact UInt8.toNat_lt _
          have hyl : y < 256 := by rw [hy]; exact UInt8.toNat_lt _
          obtain ⟨c, hc⟩ : ∃ c, c = cmpI (x : Int) (y : Int) := ⟨_, rfl⟩
          rw [← hc] at HD
          have HS := Lib.hid (show ∀ W, Calls Tryz.prog 50 #[.int .i64 (x : Int), .int .i64 (y : Int)] W (Tells W (.int .i64 c)) from fun W => by rw [hc]; exact rsign_any _ _ W)
          clear hc hx hy
          go_wp2_with fail
          refine region_phi (n := 61) (Wd [(false, .pointer (some ⟨w.heap.size, 2, none⟩)),
              (false, .string S),
              (false, .int .i64 (k : Int)),
              (false, .int .u8 (x : Int)),
              (false, .int .i64 (x : Int)),
              (false, .pointer (some ⟨w.heap.size + 1, 2, none⟩)),
              (false, .string U),
              (false, .int .i64 (k : Int)),
              (false, .int .u8 (y : Int)),
              (false, .int .i64 (y : Int)),
              (false, .int .i64 c),
              (false, .int .i64 c)]) (by kernel_rfl) (by kernel_rfl) rfl (fun _ _ _ _ h _ => h) (allOps_spec ?_) ?_
          · refine ⟨?_, ?_, ?_, ?_, ?_, ?_, ?_, ?_, ?_, ?_, ?_, ?_, trivial⟩
            · intro ac w' hb hp
              have b2 : ac.tmps[2]?.getD undef = .pointer (some ⟨w.heap.size, 0, none⟩) := hb.at 2 (by kernel_rfl)
              exact wd_run rfl rfl (by simp [execOp, go_sem, Act.eval, b2])
            · intro ac w' hb hp
              have q0 := (HX.out.below hb.ext).cell 2
              exact wd_run rfl rfl (by simp [execOp, go_sem, Act.eval, wd_get (hp ⟨0, .data⟩ (by simp) rfl _ rfl) rfl rfl, q0])
            · intro ac w' hb hp
              have b8 : ac.tmps[8]?.getD undef = .int .i64 (k : Int) := hb.at 8 (by kernel_rfl)
              exact wd_run rfl rfl (by simp [execOp, go_sem, Act.eval, b8])
            · exact fun ac w' hb hp => wd_run rfl rfl (by simp [execOp, go_sem, Act.eval, wd_get (hp ⟨1, .data⟩ (by simp) rfl _ rfl) rfl rfl, wd_get (hp ⟨2, .data⟩ (by simp) rfl _ rfl) rfl rfl, hlt, hgx])
            · exact fun ac w' hb hp => wd_run rfl rfl (by simp [execOp, go_sem, Act.eval, wd_get (hp ⟨3, .data⟩ (by simp) rfl _ rfl) rfl rfl]; rw [IntKind.wrap_i64]; omega)
            · intro ac w' hb hp
              have b3 : ac.tmps[3]?.getD undef = .pointer (some ⟨w.heap.size + 1, 0, none⟩) := hb.at 3 (by kernel_rfl)
              exact wd_run rfl rfl (by simp [execOp, go_sem, Act.eval, b3])
            · intro ac w' hb hp
              have q0 := (HY.out.below hb.ext).cell 2
              exact wd_run rfl rfl (by simp [execOp, go_sem, Act.eval, wd_get (hp ⟨5, .data⟩ (by simp) rfl _ rfl) rfl rfl, q0])
            · intro ac w' hb hp
              have b8 : ac.tmps[8]?.getD undef = .int .i64 (k : Int) := hb.at 8 (by kernel_rfl)
              exact wd_run rfl rfl (by simp [execOp, go_sem, Act.eval, b8])
            · exact fun ac w' hb hp => wd_run rfl rfl (by simp [execOp, go_sem, Act.eval, wd_get (hp ⟨6, .data⟩ (by simp) rfl _ rfl) rfl rfl, wd_get (hp ⟨7, .data⟩ (by simp) rfl _ rfl) rfl rfl, hu, hgy])
            · exact fun ac w' hb hp => wd_run rfl rfl (by simp [execOp, go_sem, Act.eval, wd_get (hp ⟨8, .data⟩ (by simp) rfl _ rfl) rfl rfl]; rw [IntKind.wrap_i64]; omega)
            · intro ac w' hb hp
              refine step_call (f := 50) (args := #[.int .i64 (x : Int), .int .i64 (y : Int)]) rfl (by simp [go_sem, wd_get (hp ⟨4, .data⟩ (by simp) rfl _ rfl) rfl rfl, wd_get (hp ⟨9, .data⟩ (by simp) rfl _ rfl) rfl rfl]) ?_
              exact (HS.out w').mono fun e w9 h9 => ⟨_, h9.1, h9.2, wd_mk rfl fun _ => rfl⟩
            · exact fun ac w' hb hp => wd_run rfl rfl (by simp [execOp, go_sem, Act.eval, wd_get (hp ⟨10, .data⟩ (by simp) rfl _ rfl) rfl rfl])
          · intro vz w9 hext hall
            have HEXT := Lib.hid hext
            have e11 : vz 11 = .int .i64 c := hall 11 (by decide) rfl
            clear hext hall
            simp only [putAll, Act.put, List.setIfInBounds_toArray, List.set_cons_zero, List.set_cons_succ, Nat.zero_add, Nat.reduceAdd, e11]
            clear e11
            have HB9 := Lib.hid (HB.out.trans (HEXT.out.mono HB.out.size))
            have HX9 := Lib.hid (HX.out.below HEXT.out)
            have HY9 := Lib.hid (HY.out.below HEXT.out)
            clear HB HX HY HEXT x2
            by_cases hc : c = 0
            · have HQ2 := Lib.hid (show R = lexC (s.drop (k + 1)) (t.drop (k + 1)) by rw [HQ.out, HD.out, if_pos hc])
              clear HD HQ
              subst hc
              go_wp2_with fail
              go_roundw
              case rel => exact ⟨k + 1, by omega, by go_num, HQ2, HB9, HX9, HY9⟩
              case measure => simp [intOf]; omega
            · obtain ⟨g1, g2, g3⟩ := neqb hc
              have HQ2 := Lib.hid (show R = c by rw [HQ.out, HD.out, if_neg hc])
              clear HD HQ
              go_wp2_with fail
              go_ret
              exact ⟨by rw [HQ2.out]; first | done | rfl, HB9.out⟩
        · obtain rfl : k = S.size := by omega
          have HQ2 := Lib.hid (show R = 0 by rw [HQ.out, List.drop_of_length_le (by have := HZ.out.1; omega), List.drop_of_length_le (by have := HZ.out.2; have := HEQ.out; omega)]; rfl)
          clear HQ
          go_wp2_with fail
          go_ret
          exact ⟨by rw [HQ2.out]; rfl, HB.out⟩
end Go.Proofs.YtnainhpcmoekcaaGreatDoor
