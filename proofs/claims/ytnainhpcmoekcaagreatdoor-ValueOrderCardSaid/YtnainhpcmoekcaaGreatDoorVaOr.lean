/- ValueOrder: for every input the law returns true (tools/gen_vor.py). -/
import Derived.Test.YtnainhpcmoekcaaGreatDoorVaRc
import Derived.Test.YtnainhpcmoekcaaGreatDoorVaJ
import Derived.Test.YtnainhpcmoekcaaGreatDoorLaw
namespace Go.Proofs.YtnainhpcmoekcaaGreatDoor
open Go.RowKit

set_option maxRecDepth 100000 in
set_option maxHeartbeats 3200000 in
theorem valueorder_walk (k0 n0 : Int) (s : Bs) (k1 n1 : Int) (t : Bs) (k2 n2 : Int) (u : Bs) (w : World) (hl : s.length ≤ 9223372036854775806) :
    Calls Tryz.prog 4 #[vl k0 n0 s, vl k1 n1 t, vl k2 n2 u] w (Tells w (.bool true)) := by
  obtain ⟨x, hx⟩ : ∃ x, x = cmpV k0 n0 s k1 n1 t := ⟨_, rfl⟩
  obtain ⟨y, hy⟩ : ∃ x, x = cmpV k1 n1 t k2 n2 u := ⟨_, rfl⟩
  obtain ⟨z, hz⟩ : ∃ x, x = cmpV k0 n0 s k2 n2 u := ⟨_, rfl⟩
  have HAB := Lib.hid (show ∀ W, Calls Tryz.prog 21 #[.agg #[.int .i64 k0, .int .i64 n0, .string (ofL s)], .agg #[.int .i64 k1, .int .i64 n1, .string (ofL t)]] W (Tells W (.int .i64 x)) from fun W => by rw [hx]; exact compare_any k0 n0 s k1 n1 t W)
  have HBC := Lib.hid (show ∀ W, Calls Tryz.prog 21 #[.agg #[.int .i64 k1, .int .i64 n1, .string (ofL t)], .agg #[.int .i64 k2, .int .i64 n2, .string (ofL u)]] W (Tells W (.int .i64 y)) from fun W => by rw [hy]; exact compare_any k1 n1 t k2 n2 u W)
  have HAC := Lib.hid (show ∀ W, Calls Tryz.prog 21 #[.agg #[.int .i64 k0, .int .i64 n0, .string (ofL s)], .agg #[.int .i64 k2, .int .i64 n2, .string (ofL u)]] W (Tells W (.int .i64 z)) from fun W => by rw [hz]; exact compare_any k0 n0 s k2 n2 u W)
  have HBA := Lib.hid (show ∀ W, Calls Tryz.prog 21 #[.agg #[.int .i64 k1, .int .i64 n1, .string (ofL t)], .agg #[.int .i64 k0, .int .i64 n0, .string (ofL s)]] W (Tells W (.int .i64 (-x))) from fun W => by rw [hx, ← cmpV_n]; exact compare_any k1 n1 t k0 n0 s W)
  have HRC := Lib.hid (show ∀ W, Calls Tryz.prog 22 #[.agg #[.int .i64 k0, .int .i64 n0, .string (ofL s)], .agg #[.int .i64 k1, .int .i64 n1, .string (ofL t)]] W (Tells W (.int .i64 x)) from fun W => by rw [hx]; exact rcompare_any k0 n0 s k1 n1 t W hl)
  have HXR := Lib.hid (show x = -1 ∨ x = 0 ∨ x = 1 by rw [hx]; exact cmpV_r _ _ _ _ _ _)
  have HYR := Lib.hid (show y = -1 ∨ y = 0 ∨ y = 1 by rw [hy]; exact cmpV_r _ _ _ _ _ _)
  have HT := Lib.hid (show x ≤ 0 → y ≤ 0 → z = min x y by rw [hx, hy, hz]; exact cmpV_t _ _ _ _ _ _ _ _ _)
  have HZ0 := Lib.hid (show x = 0 ↔ k0 = k1 ∧ n0 = n1 ∧ s = t by rw [hx]; exact cmpV_z _ _ _ _ _ _)
  clear hx hy hz hl
  unfold vl
  have hbz := al3 w (.cells #[.int .i64 k0, .int .i64 n0, .string (ofL s)] 25) (.cells #[.int .i64 k1, .int .i64 n1, .string (ofL t)] 25) (.cells #[.int .i64 k2, .int .i64 n2, .string (ofL u)] 25)
  have hxa := heap_3a w (.cells #[.int .i64 k0, .int .i64 n0, .string (ofL s)] 25) (.cells #[.int .i64 k1, .int .i64 n1, .string (ofL t)] 25) (.cells #[.int .i64 k2, .int .i64 n2, .string (ofL u)] 25)
  have hxb := heap_3b w (.cells #[.int .i64 k0, .int .i64 n0, .string (ofL s)] 25) (.cells #[.int .i64 k1, .int .i64 n1, .string (ofL t)] 25) (.cells #[.int .i64 k2, .int .i64 n2, .string (ofL u)] 25)
  have hxc := heap_3c w (.cells #[.int .i64 k0, .int .i64 n0, .string (ofL s)] 25) (.cells #[.int .i64 k1, .int .i64 n1, .string (ofL t)] 25) (.cells #[.int .i64 k2, .int .i64 n2, .string (ofL u)] 25)
  have HBZ := Lib.hid hbz
  have HXA := Lib.hid (show Bx _ w.heap.size 25 #[.int .i64 k0, .int .i64 n0, .string (ofL s)] from hxa)
  have HXB := Lib.hid (show Bx _ (w.heap.size + 1) 25 #[.int .i64 k1, .int .i64 n1, .string (ofL t)] from hxb)
  have HXC := Lib.hid (show Bx _ (w.heap.size + 1 + 1) 25 #[.int .i64 k2, .int .i64 n2, .string (ofL u)] from hxc)
  clear hbz hxa hxb hxc
  go_enter Tryz.func4, Tryz.ntmps4
  go_wp2_with fail
  refine (awake_any _).mono ?_
  rintro e V ⟨rfl, hb⟩
  have HX := Lib.hid (HXA.out.below hb)
  have HY := Lib.hid (HXB.out.below hb)
  have HZ := Lib.hid (HXC.out.below hb)
  have HB := Lib.hid (below_ext2 HBZ.out hb)
  clear hb HBZ HXA HXB HXC
  go_wp2_with fail
  refine region_phi (n := 55) (Wd [(false, .agg #[.int .i64 k0, .int .i64 n0, .string (ofL s)]),
      (false, .agg #[.int .i64 k1, .int .i64 n1, .string (ofL t)]),
      (false, .int .i64 x),
      (false, .agg #[.int .i64 k1, .int .i64 n1, .string (ofL t)]),
      (false, .agg #[.int .i64 k2, .int .i64 n2, .string (ofL u)]),
      (false, .int .i64 y),
      (false, .agg #[.int .i64 k0, .int .i64 n0, .string (ofL s)]),
      (false, .agg #[.int .i64 k2, .int .i64 n2, .string (ofL u)]),
      (false, .int .i64 z),
      (false, .int .i64 x),
      (false, .int .i64 y),
      (false, .int .i64 z)]) (by kernel_rfl) (by kernel_rfl) rfl (fun _ _ _ _ h _ => h) (allOps_spec ?_) ?_
  · refine ⟨?_, ?_, ?_, ?_, ?_, ?_, ?_, ?_, ?_, ?_, ?_, ?_, trivial⟩
    · intro ac w' hb hp
      have b3 : ac.tmps[3]?.getD undef = .pointer (some ⟨w.heap.size, 0, none⟩) := hb.at 3 (by kernel_rfl)
      have q0 := (HX.out.below hb.ext).cell 0
      have q1 := (HX.out.below hb.ext).cell 1
      have q2 := (HX.out.below hb.ext).cell 2
      exact wd_run rfl rfl (by simp [execOp, go_sem, Act.eval, b3, q0, q1, q2])
    · intro ac w' hb hp
      have b4 : ac.tmps[4]?.getD undef = .pointer (some ⟨w.heap.size + 1, 0, none⟩) := hb.at 4 (by kernel_rfl)
      have q0 := (HY.out.below hb.ext).cell 0
      have q1 := (HY.out.below hb.ext).cell 1
      have q2 := (HY.out.below hb.ext).cell 2
      exact wd_run rfl rfl (by simp [execOp, go_sem, Act.eval, b4, q0, q1, q2])
    · intro ac w' hb hp
      refine step_call (f := 21) (args := #[.agg #[.int .i64 k0, .int .i64 n0, .string (ofL s)], .agg #[.int .i64 k1, .int .i64 n1, .string (ofL t)]]) rfl (by simp [go_sem, wd_get (hp ⟨0, .data⟩ (by simp) rfl _ rfl) rfl rfl, wd_get (hp ⟨1, .data⟩ (by simp) rfl _ rfl) rfl rfl]) ?_
      exact (HAB.out w').mono fun e w9 h9 => ⟨_, h9.1, h9.2, wd_mk rfl fun _ => rfl⟩
    · intro ac w' hb hp
      have b4 : ac.tmps[4]?.getD undef = .pointer (some ⟨w.heap.size + 1, 0, none⟩) := hb.at 4 (by kernel_rfl)
      have q0 := (HY.out.below hb.ext).cell 0
      have q1 := (HY.out.below hb.ext).cell 1
      have q2 := (HY.out.below hb.ext).cell 2
      exact wd_run rfl rfl (by simp [execOp, go_sem, Act.eval, b4, q0, q1, q2])
    · intro ac w' hb hp
      have b5 : ac.tmps[5]?.getD undef = .pointer (some ⟨w.heap.size + 1 + 1, 0, none⟩) := hb.at 5 (by kernel_rfl)
      have q0 := (HZ.out.below hb.ext).cell 0
      have q1 := (HZ.out.below hb.ext).cell 1
      have q2 := (HZ.out.below hb.ext).cell 2
      exact wd_run rfl rfl (by simp [execOp, go_sem, Act.eval, b5, q0, q1, q2])
    · intro ac w' hb hp
      refine step_call (f := 21) (args := #[.agg #[.int .i64 k1, .int .i64 n1, .string (ofL t)], .agg #[.int .i64 k2, .int .i64 n2, .string (ofL u)]]) rfl (by simp [go_sem, wd_get (hp ⟨3, .data⟩ (by simp) rfl _ rfl) rfl rfl, wd_get (hp ⟨4, .data⟩ (by simp) rfl _ rfl) rfl rfl]) ?_
      exact (HBC.out w').mono fun e w9 h9 => ⟨_, h9.1, h9.2, wd_mk rfl fun _ => rfl⟩
    · intro ac w' hb hp
      have b3 : ac.tmps[3]?.getD undef = .pointer (some ⟨w.heap.size, 0, none⟩) := hb.at 3 (by kernel_rfl)
      have q0 := (HX.out.below hb.ext).cell 0
      have q1 := (HX.out.below hb.ext).cell 1
      have q2 := (HX.out.below hb.ext).cell 2
      exact wd_run rfl rfl (by simp [execOp, go_sem, Act.eval, b3, q0, q1, q2])
    · intro ac w' hb hp
      have b5 : ac.tmps[5]?.getD undef = .pointer (some ⟨w.heap.size + 1 + 1, 0, none⟩) := hb.at 5 (by kernel_rfl)
      have q0 := (HZ.out.below hb.ext).cell 0
      have q1 := (HZ.out.below hb.ext).cell 1
      have q2 := (HZ.out.below hb.ext).cell 2
      exact wd_run rfl rfl (by simp [execOp, go_sem, Act.eval, b5, q0, q1, q2])
    · intro ac w' hb hp
      refine step_call (f := 21) (args := #[.agg #[.int .i64 k0, .int .i64 n0, .string (ofL s)], .agg #[.int .i64 k2, .int .i64 n2, .string (ofL u)]]) rfl (by simp [go_sem, wd_get (hp ⟨6, .data⟩ (by simp) rfl _ rfl) rfl rfl, wd_get (hp ⟨7, .data⟩ (by simp) rfl _ rfl) rfl rfl]) ?_
      exact (HAC.out w').mono fun e w9 h9 => ⟨_, h9.1, h9.2, wd_mk rfl fun _ => rfl⟩
    · exact fun ac w' hb hp => wd_run rfl rfl (by simp [execOp, go_sem, Act.eval, wd_get (hp ⟨2, .data⟩ (by simp) rfl _ rfl) rfl rfl])
    · exact fun ac w' hb hp => wd_run rfl rfl (by simp [execOp, go_sem, Act.eval, wd_get (hp ⟨5, .data⟩ (by simp) rfl _ rfl) rfl rfl])
    · exact fun ac w' hb hp => wd_run rfl rfl (by simp [execOp, go_sem, Act.eval, wd_get (hp ⟨8, .data⟩ (by simp) rfl _ rfl) rfl rfl])
  · intro vz w3 hext hall
    have HEXT := Lib.hid hext
    have e9 : vz 9 = .int .i64 x := hall 9 (by decide) rfl
    have e10 : vz 10 = .int .i64 y := hall 10 (by decide) rfl
    have e11 : vz 11 = .int .i64 z := hall 11 (by decide) rfl
    clear hext hall
    simp only [putAll, Act.put, List.setIfInBounds_toArray, List.set_cons_zero, List.set_cons_succ, Nat.zero_add, Nat.reduceAdd, e9, e10, e11]
    clear e9 e10 e11
    have HB3 := Lib.hid (below_ext2 HB.out HEXT.out)
    have HX3 := Lib.hid (HX.out.below HEXT.out)
    have HY3 := Lib.hid (HY.out.below HEXT.out)
    clear HEXT HX HY HZ HB
    obtain ⟨a0, a1, a2⟩ := HX3.out.k3
    obtain ⟨b0, b1, b2⟩ := HY3.out.k3
    go_wp2_with fail
    refine (HRC.out _).mono ?_
    rintro e w4 ⟨rfl, hb4⟩
    have HB4 := Lib.hid (below_ext2 HB3.out hb4)
    have HX4 := Lib.hid (HX3.out.below hb4)
    have HY4 := Lib.hid (HY3.out.below hb4)
    clear hb4 a0 a1 a2 b0 b1 b2 HB3 HX3 HY3
    obtain ⟨a0, a1, a2⟩ := HX4.out.k3
    obtain ⟨b0, b1, b2⟩ := HY4.out.k3
    go_wp2_with fail
    refine (HBA.out _).mono ?_
    rintro e w5 ⟨rfl, hb5⟩
    have HB5 := Lib.hid (below_ext2 HB4.out hb5)
    have HX5 := Lib.hid (HX4.out.below hb5)
    have HY5 := Lib.hid (HY4.out.below hb5)
    clear hb5 a0 a1 a2 b0 b1 b2 HB4 HX4 HY4
    obtain ⟨a0, a1, a2⟩ := HX5.out.k3
    obtain ⟨b0, b1, b2⟩ := HY5.out.k3
    clear HX5 HY5 HAB HBC HAC HBA HRC
    have hwx : IntKind.i64.wrap (-x) = -x := by rw [IntKind.wrap_i64]; have := HXR.out; omega
    by_cases hx0 : x = 0
    · obtain ⟨rfl, rfl, rfl⟩ := HZ0.out.1 hx0
      subst hx0
      clear hwx HZ0 HXR
      by_cases hy : 0 < y
      · have d1 : decide (0 < y) = true := decide_eq_true hy
        go_wp2_with fail
        go_ret
        exact ⟨rfl, HB5.out⟩
      · have d1 : decide (0 < y) = false := decide_eq_false hy
        have hm : z = min 0 y := HT.out (by omega) (by omega)
        have HM := Lib.hid (show (z == min 0 y) = true by rw [hm]; simp)
        clear hm HT
        go_wp2_with fail
        go_ret
        exact ⟨by rw [HM.out]; rfl, HB5.out⟩
    · have g1 : (x == 0) = false := by rw [beq_eq_false_iff_ne]; exact hx0
      have HN : Hid (¬ (k0 = k1 ∧ n0 = n1 ∧ (ofL s).toList = (ofL t).toList)) := Lib.hid fun h => hx0 (HZ0.out.2 ⟨h.1, h.2.1, by have := h.2.2; rwa [ofL_toList, ofL_toList] at this⟩)
      have HFIN : Hid ((decide (0 < x) || decide (0 < y) || z == min x y) = true) := Lib.hid (by
        by_cases h1 : 0 < x
        · rw [decide_eq_true h1]; rfl
        · by_cases h2 : 0 < y
          · rw [decide_eq_true h2]; simp
          · rw [HT.out (by omega) (by omega)]; simp)
      clear HZ0 HT
      go_wp2_with fail
      all_goals first
        | exact absurd ⟨by assumption, by assumption, by assumption⟩ HN.out
        | (go_ret; exact ⟨by rw [HFIN.out]; rfl, HB5.out⟩)
        | (go_ret; exact ⟨rfl, HB5.out⟩)
end Go.Proofs.YtnainhpcmoekcaaGreatDoor
